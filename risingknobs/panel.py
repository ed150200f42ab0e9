"""A live panel: a table and a region of it that can be changed, and changed back."""

from risingknobs.best import bests, falling_settings
from risingknobs.counting import check_number, pairs
from risingknobs.errors import NothingToUndo
from risingknobs.regions import Region, whole
from risingknobs.tables import Table, single_price, table_rows


def holds(told, knob):
    """Whether no level of a knob goes down from any options to those of a later list."""
    levels = [[option[knob] for option in options] for options in told]
    return all([max(levels[early]) <= min(levels[late]) for early, late in pairs(len(levels))])


def make(panel, deed):
    """Makes a deed that is told by its word and its arguments."""
    word, *rest = deed
    if word == "change":
        panel.change(*rest)
    elif word == "charge":
        panel.charge(*rest)
    elif word == "allow":
        panel.allow(*rest)
    else:
        panel.swap(*rest)


class Panel:
    """A table and a region, as they are behind all deeds that have not been taken back."""

    def __init__(self, table):
        self._table = table
        self._region = whole(table.grid)
        # The tables and regions ahead of each deed.
        self._past = []

    def __len__(self):
        return len(self._past)

    def become(self, table, region):
        """Makes a deed of which another table or region comes."""
        self._past.append((self._table, self._region))
        self._table = table
        self._region = region

    def change(self, option, setting, worth):
        """Gives an option another worth at a setting."""
        grid = self._table.grid
        grid.check([option])
        self._table.check_setting(setting)
        rows = table_rows(self._table)
        rows[setting][grid.options.index(tuple(option))] = worth
        self.become(Table(grid, rows), self._region)

    def charge(self, knob, level, price):
        """Makes all options with a level of a knob worth less by a price."""
        grid = self._table.grid
        check_number(knob, len(grid.tops))
        check_number(level, grid.tops[knob] + 1)
        self.become(self._table.less(single_price(grid, knob, level, price)), self._region)

    def allow(self, options):
        """Makes the region of some options the one that there is."""
        self.become(self._table, Region(self._table.grid, options))

    def swap(self, first, second):
        """Exchanges the worths of two settings."""
        self._table.check_setting(first)
        self._table.check_setting(second)
        rows = table_rows(self._table)
        rows[first], rows[second] = rows[second], rows[first]
        self.become(Table(self._table.grid, rows), self._region)

    def undo(self):
        """Takes back the last deed."""
        if len(self._past) == 0:
            raise NothingToUndo()
        self._table, self._region = self._past.pop()

    def table(self):
        """The table as it is now."""
        return self._table

    def region(self):
        """The region as it is now."""
        return self._region

    def best(self):
        """The list of the lists of the best options at all settings."""
        return bests(self._table, self._region)

    def falls(self):
        """The ascending list of the (early, late) from which the best options do not rise."""
        return falling_settings(self._table, self._region)

    def held(self):
        """The ascending list of the knobs of which no level goes down as the setting goes up."""
        told = self.best()
        return [knob for knob in range(len(self._table.grid.tops)) if holds(told, knob)]

    def supposed(self, deeds):
        """What the best options would be behind some deeds."""
        other = Panel(self._table)
        other.allow(self._region.options)
        for deed in deeds:
            make(other, deed)
        return other.best()

    def changed(self, steps):
        """The ascending list of the settings at which the best options are not those of so many deeds ago."""
        check_number(steps, len(self._past) + 1)
        told = [*self._past, (self._table, self._region)]
        table, region = told[len(self._past) - steps]
        now, then = self.best(), bests(table, region)
        return [setting for setting in range(table.settings) if now[setting] != then[setting]]
