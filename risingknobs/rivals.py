"""A player and a rival, each of whom replies to the level of the other one."""

from risingknobs.counting import check_length, check_number, check_size, pairs
from risingknobs.errors import AlikeWorths, NothingToShow


def alike_pair(row):
    """The first two levels that are worth the same in a row of worths, or None."""
    for own, later in pairs(len(row)):
        if row[own] == row[later]:
            return (own, later)
    return None


def check_worths(rows):
    """Raises an error if there is no player with these worths."""
    check_size(rows)
    check_size(rows[0])
    for other, row in enumerate(rows):
        check_length(row, len(rows[0]))
        pair = alike_pair(row)
        if pair is not None:
            raise AlikeWorths((other, pair[0]), (other, pair[1]))


class Player:
    """What each own level is worth to a player against each level of the rival."""

    def __init__(self, worths):
        check_worths(worths)
        self.levels = len(worths[0])
        self.against = len(worths)
        self._rows = [list(row) for row in worths]

    def worth(self, own, other):
        """The worth of an own level against a level of the rival."""
        check_number(own, self.levels)
        check_number(other, self.against)
        return self._rows[other][own]

    def reply(self, other):
        """The own level that is worth most against a level of the rival."""
        check_number(other, self.against)
        row = self._rows[other]
        return row.index(max(row))

    def replies(self):
        """The list of the replies to all levels of the rival."""
        return [self.reply(other) for other in range(self.against)]


def falling_reply(player):
    """The first (other, later) of levels of the rival with a lower reply to the later one, or None."""
    told = player.replies()
    for other, later in pairs(player.against):
        if told[later] < told[other]:
            return (other, later)
    return None


def is_rising(player):
    """Whether no reply is below the reply to a lower level."""
    return falling_reply(player) is None


def check_rival(player, rival):
    """Raises BadNumber if the list tells no rival of a player."""
    check_length(rival, player.levels)
    for other in rival:
        check_number(other, player.against)


def rests(player, rival):
    """The ascending list of the (own, other), each of which is the reply to the other one."""
    check_rival(player, rival)
    return [(own, other) for own, other in enumerate(rival) if player.reply(other) == own]


def rising_rows(low, high):
    """The ascending list of all tuples that never go down, with each item between those of two rows."""
    rows = [()]
    for least, most in zip(low, high):
        rows = [(*row, n) for row in rows for n in range(max([least, *row]), most + 1)]
    return rows


def all_rivals(player):
    """Goes through all rising rivals of a player."""
    low = [0 for _ in range(player.levels)]
    high = [player.against - 1 for _ in range(player.levels)]
    yield from rising_rows(low, high)


def restless(player):
    """The list that tells a rising rival against whom a player has no rest."""
    pair = falling_reply(player)
    if pair is None:
        raise NothingToShow()
    # Below the reply to the lower level the rival has that level, and the
    # reply is above; from there on the rival has the later one, and the
    # reply is below.
    other, later = pair
    bound = player.reply(other)
    return [other if own < bound else later for own in range(player.levels)]


def always_rests(player):
    """Whether a player has a rest against every rising rival."""
    return is_rising(player)


def walk(player, rival, start):
    """The own levels from one on, each the reply to the rival's reply to the one ahead, up to one that comes again."""
    check_rival(player, rival)
    levels = [start]
    own = player.reply(rival[start])
    while own not in levels:
        levels.append(own)
        own = player.reply(rival[own])
    return [*levels, own]


def climb(player, rival):
    """The walk of the own levels from the least one on."""
    return walk(player, rival, 0)


def descend(player, rival):
    """The walk of the own levels from the greatest one on."""
    return walk(player, rival, player.levels - 1)
