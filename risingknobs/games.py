"""Games: two or three players each turn one knob of a grid."""

from risingknobs.best import worth_most
from risingknobs.counting import check_length, check_number
from risingknobs.crossing import stays
from risingknobs.errors import BadNumber
from risingknobs.grids import check_alike, with_level

FEWEST_PLAYERS = 2
MOST_PLAYERS = 3


def check_tables(tables):
    """Raises an error if there is no game with these tables."""
    if not FEWEST_PLAYERS <= len(tables) <= MOST_PLAYERS:
        raise BadNumber(len(tables))
    for table in tables:
        check_alike(tables[0].grid, table.grid)
    for table in tables:
        if table.settings != tables[0].settings:
            raise BadNumber(table.settings)
    check_length(tables[0].grid.tops, len(tables))


def rising_pairs(grid, knob):
    """The ascending list of the pairs of options with the same level of a knob, the first one below the second one."""
    return [(first, second) for first in grid.options for second in grid.options
            if first[knob] == second[knob] and grid.is_below(first, second)]


def gain(worths, option, knob, level):
    """How much more an option is worth with another level of a knob."""
    return worths[with_level(option, knob, level)] - worths[option]


def wavering_level(before, behind, pairs, knob, top):
    """The first (first, second, level) for which a higher level is not kept from some worths to others, or None."""
    for first, second in pairs:
        for level in range(first[knob] + 1, top + 1):
            if not stays(gain(before, first, knob, level), gain(behind, second, knob, level)):
                return (first, second, level)
    return None


class Game:
    """What each option is worth to each player at each setting."""

    def __init__(self, tables):
        check_tables(tables)
        self.grid = tables[0].grid
        self.settings = tables[0].settings
        self._tables = list(tables)

    def payoff(self, player):
        """The table of a player."""
        check_number(player, len(self._tables))
        return self._tables[player]

    def replies(self, player, option, *, setting=0):
        """The ascending list of the levels that are worth most to a player beside those of the others."""
        table = self.payoff(player)
        self.grid.check([option])
        own = [with_level(option, player, level) for level in range(self.grid.tops[player] + 1)]
        return [told[player] for told in worth_most(table.worths(setting), own)]

    def all_replies(self, option, setting):
        """The list of the lists of the replies of all players to an option."""
        return [self.replies(player, option, setting=setting) for player in range(len(self._tables))]

    def is_rest(self, option, *, setting=0):
        """Whether the level of each player is one of their replies to the option."""
        return all([level in told for level, told in zip(option, self.all_replies(option, setting))])

    def rests(self, *, setting=0):
        """The ascending list of all options at which all players rest."""
        return [option for option in self.grid.options if self.is_rest(option, setting=setting)]

    def wavering(self, player):
        """The first (early, late, first, second, level) for which the table of a player does not cross, or None."""
        table = self.payoff(player)
        pairs = rising_pairs(self.grid, player)
        told = [table.worths(setting) for setting in range(self.settings)]
        for early in range(self.settings):
            for late in range(early, self.settings):
                place = wavering_level(told[early], told[late], pairs, player, self.grid.tops[player])
                if place is not None:
                    return (early, late, *place)
        return None

    def is_crossing(self):
        """Whether the tables of all players cross."""
        return all([self.wavering(player) is None for player in range(len(self._tables))])

    def check_crossing(self, setting):
        """Raises BadSetting if there is no such setting, and BadNumber with the first player whose table wavers."""
        self._tables[0].check_setting(setting)
        for player in range(len(self._tables)):
            if self.wavering(player) is not None:
                raise BadNumber(player)

    def walk(self, option, place, setting):
        """The list of options from one on, each of the replies at a place to the one ahead, until nothing changes."""
        options = []
        while option not in options[-1:]:
            options.append(option)
            option = tuple([told[place] for told in self.all_replies(option, setting)])
        return options

    def climb(self, *, setting=0):
        """The options from the least one on, each of the least replies to the one ahead."""
        self.check_crossing(setting)
        return self.walk(self.grid.options[0], 0, setting)

    def descend(self, *, setting=0):
        """The options from the greatest one on, each of the greatest replies to the one ahead."""
        self.check_crossing(setting)
        return self.walk(self.grid.options[-1], -1, setting)

    def by_turns(self, players, *, setting=0):
        """The option that comes about from the least one as players set their level to their least reply in turn."""
        for player in players:
            check_number(player, len(self._tables))
        self._tables[0].check_setting(setting)
        option = self.grid.options[0]
        for player in players:
            option = with_level(option, player, self.replies(player, option, setting=setting)[0])
        return option
