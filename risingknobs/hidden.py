"""A hidden reply: what is known of a player's rising answers from some facts."""

from risingknobs.counting import check_length, check_number
from risingknobs.errors import BadNumber, BadText, NothingToUndo
from risingknobs.rivals import rising_rows

MOST_TOP = 6
WORDS = ("at", "least", "most")


def raised(low, level, value):
    """The least rising answers of those not below some others, with at least a value at a level."""
    return [max(n, value) if at >= level else n for at, n in enumerate(low)]


def lowered(high, level, value):
    """The greatest rising answers of those not above some others, with at most a value at a level."""
    return [min(n, value) if at <= level else n for at, n in enumerate(high)]


def most_alike(answers, top):
    """The greatest number of answers, among some up to a top, that are the same."""
    return max([answers.count(value) for value in range(top + 1)])


def rests_of(reply, rival):
    """The ascending list of the own levels at which a player with a reply and a rival rest."""
    return [own for own, level in enumerate(rival) if reply[level] == own]


class Hidden:
    """The rising answers of a player to the levels of a rival, as far as facts tell them."""

    def __init__(self, top, rival_top):
        check_number(top, MOST_TOP + 1)
        check_number(rival_top, MOST_TOP + 1)
        self._top = top
        self._facts = []
        # The least and the greatest reply that fit, ahead of all facts and
        # behind each of them; all rising replies between the two fit.
        self._bounds = [([0 for _ in range(rival_top + 1)], [top for _ in range(rival_top + 1)])]

    def __len__(self):
        return len(self._facts)

    def low(self):
        """The least reply that fits."""
        return list(self._bounds[-1][0])

    def high(self):
        """The greatest reply that fits."""
        return list(self._bounds[-1][1])

    def check_answer(self, level, value):
        """Raises BadNumber if there is no such level of the rival, or no such own level."""
        check_number(level, len(self.low()))
        check_number(value, self._top + 1)

    def tell(self, fact):
        """Tells a fact, and whether some reply fits; if none does, nothing is told."""
        if fact[0] not in WORDS:
            raise BadText(0)
        word, level, value = fact
        self.check_answer(level, value)
        low = self.low() if word == "most" else raised(self.low(), level, value)
        high = self.high() if word == "least" else lowered(self.high(), level, value)
        if any([least > most for least, most in zip(low, high)]):
            return False
        self._facts.append((word, level, value))
        self._bounds.append((low, high))
        return True

    def told(self):
        """The list of the facts that were told."""
        return list(self._facts)

    def undo(self):
        """Takes back the last fact."""
        if len(self._facts) == 0:
            raise NothingToUndo()
        self._facts.pop()
        self._bounds.pop()

    def many(self):
        """The number of the replies that fit."""
        return len(rising_rows(self.low(), self.high()))

    def says(self, level, value):
        """Whether the answer to a level is a value: "sure", "never" or "open"."""
        self.check_answer(level, value)
        least, most = self.low()[level], self.high()[level]
        if not least <= value <= most:
            return "never"
        return "sure" if least == most else "open"

    def best(self, *levels):
        """The index of the level of the rival to ask about, so that the fewest replies may fit behind it, or None."""
        for level in levels:
            check_number(level, len(self.low()))
        if len(levels) == 0:
            return None
        rows = rising_rows(self.low(), self.high())
        worst = [most_alike([row[level] for row in rows], self._top) for level in levels]
        return worst.index(min(worst))

    def check_rival(self, rival):
        """Raises BadNumber if the list tells no rival whose answers never go down."""
        check_length(rival, self._top + 1)
        ahead = 0
        for level in rival:
            check_number(level, len(self.low()))
            if level < ahead:
                raise BadNumber(level)
            ahead = level

    def rests(self, rival):
        """The dictionary from the own levels to whether player and rival rest there."""
        self.check_rival(rival)
        return {own: self.says(level, own) for own, level in enumerate(rival)}

    # A reply with greater answers rests at greater levels, so that the least
    # and the greatest reply tell all.

    def least_rest(self, rival):
        """The least and the greatest level that the least rest can be."""
        self.check_rival(rival)
        return (rests_of(self.low(), rival)[0], rests_of(self.high(), rival)[0])

    def greatest_rest(self, rival):
        """The least and the greatest level that the greatest rest can be."""
        self.check_rival(rival)
        return (rests_of(self.low(), rival)[-1], rests_of(self.high(), rival)[-1])
