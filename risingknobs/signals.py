"""Signals: how likely the states of the world are behind each of them."""

from risingknobs.counting import check_length, check_number, check_size, first_unfit, pairs
from risingknobs.crossing import stays
from risingknobs.errors import BadNumber
from risingknobs.tables import sums


def check_weights(rows):
    """Raises BadNumber if there are no signals with these weights."""
    check_size(rows)
    check_size(rows[0])
    for row in rows:
        check_length(row, len(rows[0]))
        for weight in row:
            if weight < 0:
                raise BadNumber(weight)
        if max(row) == 0:
            raise BadNumber(0)


class Signals:
    """The weights of the states behind each signal."""

    def __init__(self, weights):
        check_weights(weights)
        self.count = len(weights)
        self.states = len(weights[0])
        self._rows = [list(row) for row in weights]

    def __eq__(self, other):
        return isinstance(other, Signals) and self._rows == other._rows

    def row(self, signal):
        """The list of the weights of a signal."""
        check_number(signal, self.count)
        return list(self._rows[signal])

    def weight(self, signal, state):
        """The weight of a state behind a signal."""
        check_number(signal, self.count)
        check_number(state, self.states)
        return self._rows[signal][state]

    def minor(self, first, second, state, later):
        """How much more the later signal speaks for the later state than the earlier one does, below 0 if less."""
        before = self.row(first)
        behind = self.row(second)
        check_number(state, self.states)
        check_number(later, self.states)
        if second <= first:
            raise BadNumber(second)
        if later <= state:
            raise BadNumber(later)
        return before[state] * behind[later] - before[later] * behind[state]

    def total(self, signal, values):
        """The sum of the weights of a signal times the values of the states."""
        row = self.row(signal)
        check_length(values, self.states)
        return sum([weight * value for weight, value in zip(row, values)])

    def joined(self, first, second):
        """The signals in which two neighbouring ones are made into one."""
        before = self.row(first)
        behind = self.row(second)
        if second != first + 1:
            raise BadNumber(second)
        return Signals([*self._rows[:first], sums(before, behind), *self._rows[second + 1:]])

    def part(self, states):
        """The signals with some of the states alone, told in ascending order."""
        if len(states) == 0:
            raise BadNumber(0)
        at = first_unfit(states, self.states)
        if at is not None:
            raise BadNumber(states[at])
        return Signals([[row[state] for state in states] for row in self._rows])


def negative_minor(signals):
    """The first (first, second, state, later) with a minor below 0, or None."""
    for first, second in pairs(signals.count):
        for state, later in pairs(signals.states):
            if signals.minor(first, second, state, later) < 0:
                return (first, second, state, later)
    return None


def is_ordered(signals):
    """Whether a later signal speaks for higher states: whether no minor is below 0."""
    return negative_minor(signals) is None


def is_crossing_row(values):
    """Whether behind a value that is at least 0, or above 0, all later ones are."""
    # What each value hands on to the next one, it hands on to all later ones.
    return all([stays(one, later) for one, later in zip(values, values[1:])])
