"""Grids: the knobs of a device, and the choices of their levels."""

from risingknobs.counting import check_number
from risingknobs.errors import BadNumber, BadOption, BadText, UnlikeGrids

MOST_KNOBS = 3
MOST_TOP = 9
MOST_OPTIONS = 16
DIGITS = ("0", "1", "2", "3", "4", "5", "6", "7", "8", "9")


def bad_word(text):
    """The index of the first word of a text that is not a digit, or None."""
    for at, word in enumerate(text.split(" ")):
        if word not in DIGITS:
            return at
    return None


def levels_of(text):
    """The list of the levels that a text of digits tells."""
    return [int(word) for word in text.split(" ")]


def check_tops(tops):
    """Raises BadNumber if there is no grid with these tops."""
    if not 1 <= len(tops) <= MOST_KNOBS:
        raise BadNumber(len(tops))
    for top in tops:
        if not 0 <= top <= MOST_TOP:
            raise BadNumber(top)
    count = 1
    for top in tops:
        count = count * (top + 1)
    if count > MOST_OPTIONS:
        raise BadNumber(count)


def options_below(tops):
    """The tuple of all options with levels up to the tops, in ascending order."""
    options = [()]
    for top in tops:
        options = [(*shorter, level) for shorter in options for level in range(top + 1)]
    return tuple(options)


def with_level(option, knob, level):
    """The option with another level at a knob."""
    return tuple([level if at == knob else own for at, own in enumerate(option)])


class Grid:
    """One to three knobs, each with the levels from 0 to its top."""

    def __init__(self, *tops):
        check_tops(tops)
        self.tops = tops
        self.options = options_below(tops)

    @classmethod
    def read(cls, text):
        """The grid that a text tells."""
        at = bad_word(text)
        if at is not None:
            raise BadText(at)
        tops = levels_of(text)
        return cls(*tops)

    def __str__(self):
        return " ".join([str(top) for top in self.tops])

    def __eq__(self, other):
        return isinstance(other, Grid) and self.tops == other.tops

    def __len__(self):
        return len(self.options)

    def __contains__(self, option):
        return tuple(option) in self.options

    def __iter__(self):
        return iter(self.options)

    def check(self, options):
        """Raises BadOption with the first one of some options that is none of the grid."""
        for option in options:
            if option not in self:
                raise BadOption(option)

    def lesser(self, first, second):
        """The option with the lesser one of the two levels at each knob."""
        self.check([first, second])
        return tuple([min(one, other) for one, other in zip(first, second)])

    def greater(self, first, second):
        """The option with the greater one of the two levels at each knob."""
        self.check([first, second])
        return tuple([max(one, other) for one, other in zip(first, second)])

    def is_below(self, first, second):
        """Whether no level of the first option is above that of the second one."""
        self.check([first, second])
        return all([one <= other for one, other in zip(first, second)])

    def up(self, option, knob):
        """The option with one level more at a knob, or None."""
        self.check([option])
        check_number(knob, len(self.tops))
        if option[knob] == self.tops[knob]:
            return None
        return with_level(option, knob, option[knob] + 1)

    def steps(self, option):
        """The ascending list of the options with one level more at one knob."""
        ups = [self.up(option, knob) for knob in range(len(self.tops))]
        return sorted([step for step in ups if step is not None])


def check_alike(first, second):
    """Raises UnlikeGrids if two grids are not equal."""
    if first != second:
        raise UnlikeGrids(first.tops, second.tops)
