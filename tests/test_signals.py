"""Points 0.3 to 0.6 for signals, and points 8.1 to 8.5."""

import itertools
import random
import unittest

from risingknobs.errors import BadNumber
from risingknobs.signals import Signals, is_crossing_row, is_ordered, negative_minor
from tests.helpers import ProgramTest

CLEAR = [[3, 2, 0], [1, 2, 3], [0, 1, 9]]
MOST = 10 ** 1000 - 1


def rows_of(signals):
    return [signals.row(signal) for signal in range(signals.count)]


def all_weights(count, states, most):
    """The weights of all signals of so many rows and states, with weights up to some number."""
    rows = [row for row in itertools.product(range(most + 1), repeat=states) if any(row)]
    return [[list(row) for row in told] for told in itertools.product(rows, repeat=count)]


def ordered_weights(draw, count, states):
    """Weights with no minor below 0, and with noughts: each signal has a band of the states, and the bands rise."""
    low, high, told = 0, 0, []
    for _ in range(count):
        low = draw.randrange(low, states)
        high = max(low, draw.randrange(high, states))
        told.append([1 if low <= state <= high else 0 for state in range(states)])
    factors = [draw.randrange(1, 5) for _ in range(states)]
    return [[weight * factor for weight, factor in zip(row, factors)] for row in told]


def samples():
    """The weights of all of some small signals, and of some others."""
    told = all_weights(2, 2, 3) + all_weights(3, 2, 1) + all_weights(2, 3, 2) + all_weights(1, 4, 1)
    told += all_weights(4, 1, 2)[::3] + all_weights(3, 3, 1)[::2]
    draw = random.Random("signals")
    for count, states in itertools.product((2, 3, 5), (2, 4, 5)):
        for _ in range(10):
            told.append(ordered_weights(draw, count, states))
            told.append([[draw.randrange(1, 6) for _ in range(states)] for _ in range(count)])
            told.append([[(signal + 1) ** state * draw.randrange(1, 3) for state in range(states)]
                         for signal in range(count)])
            told.append([[(signal + 2) ** state for state in range(states)] for signal in range(count)])
    return told


def minor_by_hand(weights, first, second, state, later):
    return weights[first][state] * weights[second][later] - weights[first][later] * weights[second][state]


def negative_minor_by_hand(weights):
    told = [(first, second, state, later)
            for first, second in itertools.combinations(range(len(weights)), 2)
            for state, later in itertools.combinations(range(len(weights[0])), 2)]
    return min([place for place in told if minor_by_hand(weights, *place) < 0], default=None)


def crosses_by_hand(values):
    return all((one < 0 or later >= 0) and (one <= 0 or later > 0)
               for one, later in itertools.combinations(values, 2))


def total_by_hand(row, values):
    return sum(row[state] * values[state] for state in range(len(row)))


class TestSignals(ProgramTest):

    def test_examples_of_the_interface(self):
        clear, odd = Signals([[3, 2, 0], [1, 2, 3]]), Signals([[1, 3], [2, 1]])
        self.check_same(
            [is_ordered(clear), negative_minor(odd), odd.minor(0, 1, 0, 1),
             [clear.total(k, [-2, 0, 1]) for k in range(2)]],
            [True, (0, 1, 0, 1), -5, [-6, 1]],
        )
        self.check_same(
            [is_crossing_row([-1, 0, 0, 2]), is_crossing_row([0, -1]), is_crossing_row([1, 0]),
             clear.joined(0, 1).row(0), clear.states],
            [True, False, False, [4, 4, 3], 3],
        )

    def test_all_sizes(self):
        for count, states in itertools.product(range(1, 6), repeat=2):
            weights = [[7 * signal + state for state in range(1, states + 1)] for signal in range(count)]
            signals = Signals(weights)
            self.check_same([signals.count, signals.states, rows_of(signals)], [count, states, weights])
            for signal, state in itertools.product(range(count), range(states)):
                self.check_same(signals.weight(signal, state), weights[signal][state])

    def test_the_number_of_the_rows(self):
        for count in (0, 6, 7):
            self.check_error(BadNumber, {"n": count}, Signals, [[1, 2]] * count)
        self.check_error(BadNumber, {"n": 0}, Signals, ())
        self.check_error(BadNumber, {"n": 6}, Signals, [[], [-1], [0], [0], [1, 2], [1]])

    def test_the_length_of_the_first_row(self):
        for length in (0, 6, 9):
            self.check_error(BadNumber, {"n": length}, Signals, [[1] * length])
            self.check_error(BadNumber, {"n": length}, Signals, [[-7] * length, [1]])
        self.check_error(BadNumber, {"n": 6}, Signals, [[0] * 6, [0] * 6])

    def test_the_lengths_of_the_other_rows(self):
        for row in ([], [1], [1, 1, 1], [1] * 6):
            self.check_error(BadNumber, {"n": len(row)}, Signals, [[1, 2], row])
            self.check_error(BadNumber, {"n": len(row)}, Signals, ([1, 2], (3, 4), tuple(row), [5]))

    def test_weights_below_0(self):
        self.check_error(BadNumber, {"n": -1}, Signals, [[-1]])
        self.check_error(BadNumber, {"n": -2}, Signals, [[1, -2, -3], [-4, 1, 1]])
        self.check_error(BadNumber, {"n": -4}, Signals, [[1, 2, 3], [0, 0, -4]])
        self.check_error(BadNumber, {"n": -MOST}, Signals, [[1, -MOST]])

    def test_rows_of_noughts_alone(self):
        for weights in ([[0]], [[0, 0]], [[1, 0], [0, 0]], [[1], [2], [0]]):
            self.check_error(BadNumber, {"n": 0}, Signals, weights)
        self.check_same(rows_of(Signals([[0, 1], [1, 0]])), [[0, 1], [1, 0]])

    def test_errors_of_signals_come_row_by_row(self):
        self.check_error(BadNumber, {"n": -5}, Signals, [[1, -5], [1]])
        self.check_error(BadNumber, {"n": 0}, Signals, [[0, 0], [1, -5]])
        self.check_error(BadNumber, {"n": 0}, Signals, [[0, 0], [1, 2, 3]])
        self.check_error(BadNumber, {"n": 3}, Signals, [[1, 1], [-1, 0, 0], [0, 0]])
        self.check_error(BadNumber, {"n": 3}, Signals, [[1, 1], [0, 0, 0]])
        self.check_error(BadNumber, {"n": -3}, Signals, [[1, 1], [0, -3], [0, 0]])
        self.check_error(BadNumber, {"n": 1}, Signals, [[1, 1], [0], [-2, 0]])

    def test_lists_are_copied_and_not_modified(self):
        weights = [[3, 2], [1, 2]]
        signals = Signals(weights)
        self.check_same(weights, [[3, 2], [1, 2]])
        weights[0][0] = 9
        weights.pop()
        signals.row(1).clear()
        told = signals.row(0)
        told[0] = 7
        self.check_same([signals.count, rows_of(signals), told], [2, [[3, 2], [1, 2]], [7, 2]])

    def test_tuples_instead_of_lists(self):
        signals = Signals(((3, 2), [1, 2]))
        self.check_same(rows_of(signals), [[3, 2], [1, 2]])
        self.check_like(signals, Signals([(3, 2), (1, 2)]))
        self.check_same([signals.total(0, (1, -1)), rows_of(signals.part((1,)))], [1, [[2], [2]]])

    def test_no_signals_and_no_states(self):
        signals = Signals(CLEAR)
        for n in (-1, -3, 3, 8):
            self.check_error(BadNumber, {"n": n}, signals.row, n)
            self.check_error(BadNumber, {"n": n}, signals.weight, n, 0)
            self.check_error(BadNumber, {"n": n}, signals.weight, n, -7)
            self.check_error(BadNumber, {"n": n}, signals.weight, 2, n)
        wide = Signals([[1, 2, 3, 4], [1, 2, 3, 5]])
        self.check_same(wide.weight(1, 3), 5)
        self.check_error(BadNumber, {"n": 4}, wide.weight, 1, 4)
        self.check_error(BadNumber, {"n": 2}, wide.weight, 2, 1)
        self.check_error(BadNumber, {"n": 2}, wide.row, 2)

    def test_equality(self):
        signals = Signals(CLEAR)
        self.check_like(signals, signals)
        self.check_like(signals, Signals([tuple(row) for row in CLEAR]))
        others = [CLEAR[:2], CLEAR + [[0, 1, 9]], [[6, 4, 0], *CLEAR[1:]], [CLEAR[1], CLEAR[0], CLEAR[2]],
                  [row[:2] for row in CLEAR], [[2 * weight for weight in row] for row in CLEAR]]
        for weights in others:
            self.check_unlike(signals, Signals(weights))
        for other in (CLEAR, tuple(map(tuple, CLEAR)), None, 0, "", (3, 3)):
            self.check_unlike(signals, other)


class TestMinors(ProgramTest):

    def test_all_minors(self):
        signs = {-1: 0, 0: 0, 1: 0}
        for weights in samples():
            signals = Signals(weights)
            for first, second in itertools.combinations(range(len(weights)), 2):
                for state, later in itertools.combinations(range(len(weights[0])), 2):
                    expected = minor_by_hand(weights, first, second, state, later)
                    self.check_same(signals.minor(first, second, state, later), expected)
                    signs[(expected > 0) - (expected < 0)] += 1
        self.assertGreater(min(signs.values()), 500)

    def test_ordered_signals(self):
        counts = {True: 0, False: 0}
        for weights in samples():
            signals, expected = Signals(weights), negative_minor_by_hand(weights)
            self.check_same([negative_minor(signals), is_ordered(signals)], [expected, expected is None])
            counts[expected is None] += 1
        self.assertGreater(min(counts.values()), 100)

    def test_the_first_negative_minor(self):
        told = [([[1, 1, 1], [1, 1, 1], [1, 1, 0]], (0, 2, 0, 2)), ([[1, 1, 1], [1, 0, 1], [1, 1, 1]], (0, 1, 0, 1)),
                ([[1, 1, 1], [2, 2, 3], [2, 3, 3]], (1, 2, 1, 2)), ([[1, 0], [0, 1], [1, 0]], (1, 2, 0, 1)),
                ([[1, 0, 0], [0, 0, 1], [0, 1, 0]], (1, 2, 1, 2))]
        for weights, place in told:
            self.check_same(negative_minor(Signals(weights)), place)

    def test_minors_of_0_are_ordered(self):
        for weights in ([[1, 2], [2, 4]], [[1, 0], [1, 0]], [[0, 0, 3], [0, 0, 1]], [[5]], [[1], [2], [1]],
                        [[0, 3, 1, 9]]):
            self.check_same([negative_minor(Signals(weights)), is_ordered(Signals(weights))], [None, True])

    def test_signals_and_states_that_are_not_neighbours(self):
        # Behind the middle signal the middle state alone has a weight, or none.
        self.check_same(negative_minor(Signals([[1, 0, 1], [0, 1, 0], [1, 0, 1]])), (0, 1, 1, 2))
        self.check_same(negative_minor(Signals([[0, 0, 1], [0, 1, 0], [1, 0, 0]])), (0, 1, 1, 2))
        self.check_same(negative_minor(Signals([[0, 0, 1], [1, 0, 0]])), (0, 1, 0, 2))
        self.check_same(negative_minor(Signals([[0, 1, 0, 1], [0, 1, 0, 1], [1, 1, 0, 1]])), (0, 2, 0, 1))

    def test_no_minors(self):
        signals = Signals([[1, 2, 3, 4], [1, 2, 3, 5], [1, 1, 1, 9]])
        for n in (-1, 3, 4):
            self.check_error(BadNumber, {"n": n}, signals.minor, n, 9, -9, 9)
            self.check_error(BadNumber, {"n": n}, signals.minor, 0, n, -9, 9)
        for n in (-1, 4, 5):
            self.check_error(BadNumber, {"n": n}, signals.minor, 0, 1, n, 9)
            self.check_error(BadNumber, {"n": n}, signals.minor, 0, 1, 0, n)
            # The numbers are looked at ahead of their order.
            self.check_error(BadNumber, {"n": n}, signals.minor, 1, 0, n, 9)
            self.check_error(BadNumber, {"n": n}, signals.minor, 1, 0, 0, n)

    def test_minors_out_of_order(self):
        signals = Signals([[1, 2, 3, 4], [1, 2, 3, 5], [1, 1, 1, 9]])
        for first, second in ((1, 0), (2, 0), (1, 1), (0, 0)):
            self.check_error(BadNumber, {"n": second}, signals.minor, first, second, 0, 3)
            self.check_error(BadNumber, {"n": second}, signals.minor, first, second, 3, 2)
        for state, later in ((1, 0), (3, 2), (2, 2), (0, 0)):
            self.check_error(BadNumber, {"n": later}, signals.minor, 0, 2, state, later)

    def test_long_weights(self):
        signals = Signals([[MOST, MOST], [MOST - 1, MOST]])
        self.check_same([signals.minor(0, 1, 0, 1) == MOST, is_ordered(signals)], [True, True])
        signals = Signals([[MOST - 1, MOST], [MOST, MOST]])
        self.check_same([signals.minor(0, 1, 0, 1) == -MOST, negative_minor(signals)], [True, (0, 1, 0, 1)])


class TestTotals(ProgramTest):

    def test_totals(self):
        for weights in samples()[::7]:
            signals = Signals(weights)
            for values in itertools.product((-2, 0, 3), repeat=signals.states):
                for signal, row in enumerate(weights):
                    self.check_same(signals.total(signal, list(values)), total_by_hand(row, values))

    def test_the_values_are_not_modified(self):
        values = [1, -1, 0]
        Signals(CLEAR).total(0, values)
        is_crossing_row(values)
        self.check_same(values, [1, -1, 0])

    def test_long_values(self):
        signals = Signals([[MOST, MOST, 1]])
        self.assertIs(signals.total(0, [MOST, 1 - MOST, -5]) == MOST - 5, True)
        self.assertIs(signals.total(0, [MOST ** 2, MOST, 0]) == MOST ** 3 + MOST ** 2, True)

    def test_errors_of_a_total(self):
        signals = Signals([[1, 2, 3, 4], [1, 2, 3, 5]])
        for n in (-1, 2, 3):
            self.check_error(BadNumber, {"n": n}, signals.total, n, [1, 2, 3, 4])
            self.check_error(BadNumber, {"n": n}, signals.total, n, [1])
        for length in (0, 1, 3, 5, 6):
            self.check_error(BadNumber, {"n": length}, signals.total, 1, [1] * length)

    def test_crossing_rows(self):
        counts = {True: 0, False: 0}
        for count in range(6):
            for values in itertools.product((-3, -1, 0, 1, 2), repeat=count):
                expected = crosses_by_hand(values)
                self.assertIs(is_crossing_row(list(values)), expected)
                counts[expected] += 1
        self.assertGreater(min(counts.values()), 100)

    def test_crossing_rows_by_hand(self):
        told = {(): True, (5,): True, (-5,): True, (-1, 5, 1): True, (-1, -9, 0, 2): True, (0, 0, 0): True,
                (0, 1, 0): False, (-1, 1, -1): False, (1, -1, 1): False, (1, 0, 1): False, (0, -1, 1): False,
                (-1, MOST, MOST): True, (-1, 0, -MOST): False, (1, 1, 1, 1, 1, 1, 1, 0): False}
        for values, expected in told.items():
            self.assertIs(is_crossing_row(list(values)), expected)
            self.assertIs(is_crossing_row(values), expected)

    def test_totals_of_ordered_signals_cross_if_the_values_cross(self):
        crossing = {states: [list(values) for values in itertools.product((-2, -1, 0, 1, 3), repeat=states)
                             if crosses_by_hand(values)] for states in range(1, 6)}
        broken = 0
        for weights in samples():
            signals = Signals(weights)
            for values in crossing[signals.states]:
                totals = [signals.total(signal, values) for signal in range(signals.count)]
                if is_ordered(signals):
                    self.assertIs(is_crossing_row(totals), True, (weights, values))
                else:
                    broken += not crosses_by_hand(totals)
        self.assertGreater(broken, 100)


class TestMadeOfOthers(ProgramTest):

    def test_joined(self):
        signals = Signals([[1, 2], [3, 0], [0, 5], [7, 7], [0, 9]])
        self.check_same(rows_of(signals.joined(0, 1)), [[4, 2], [0, 5], [7, 7], [0, 9]])
        self.check_same(rows_of(signals.joined(1, 2)), [[1, 2], [3, 5], [7, 7], [0, 9]])
        self.check_same(rows_of(signals.joined(3, 4)), [[1, 2], [3, 0], [0, 5], [7, 16]])
        self.check_same(rows_of(signals.joined(3, 4).joined(0, 1).joined(1, 2).joined(0, 1)), [[11, 23]])
        self.check_same(rows_of(signals), [[1, 2], [3, 0], [0, 5], [7, 7], [0, 9]])
        self.assertIs(type(signals.joined(0, 1)), Signals)

    def test_no_neighbours(self):
        signals = Signals([[1, 2], [3, 4], [5, 6], [7, 8]])
        for first, second in ((0, 2), (0, 3), (1, 0), (3, 2), (1, 1), (0, 0), (3, 3)):
            self.check_error(BadNumber, {"n": second}, signals.joined, first, second)
        for first, second, n in ((-1, 0, -1), (4, 5, 4), (3, 4, 4), (0, -1, -1), (-2, -1, -2), (7, 0, 7), (2, 9, 9)):
            self.check_error(BadNumber, {"n": n}, signals.joined, first, second)
        self.check_error(BadNumber, {"n": 0}, Signals([[1]]).joined, 0, 0)
        self.check_error(BadNumber, {"n": 1}, Signals([[1]]).joined, 0, 1)

    def test_part(self):
        signals = Signals([[1, 2, 3, 4, 5], [0, 9, 8, 7, 0]])
        for count in range(1, 6):
            for states in itertools.combinations(range(5), count):
                if states not in ((0,), (4,), (0, 4)):
                    told = [[1, 2, 3, 4, 5], [0, 9, 8, 7, 0]]
                    self.check_same(rows_of(signals.part(list(states))), [[row[at] for at in states] for row in told])
        self.assertIs(type(signals.part([1])), Signals)
        self.check_same(rows_of(signals), [[1, 2, 3, 4, 5], [0, 9, 8, 7, 0]])

    def test_errors_of_a_part(self):
        signals = Signals([[1, 2, 0, 0], [0, 0, 1, 0]])
        self.check_error(BadNumber, {"n": 0}, signals.part, [])
        self.check_error(BadNumber, {"n": 0}, signals.part, ())
        for states, n in (([4], 4), ([-1], -1), ([0, 5, 9], 5), ([0, 0], 0), ([1, 1, 0], 1), ([2, 1], 1),
                          ([1, 2, -1], -1), ([3, 0, 7], 0), ([0, 2, 2, 9], 2), ([1, 9, 0], 9)):
            self.check_error(BadNumber, {"n": n}, signals.part, states)
        for states in ([0], [2], [3], [0, 1], [2, 3], [0, 1, 3]):
            self.check_error(BadNumber, {"n": 0}, signals.part, states)
        # The signals 0 and 1 have no weight left, but 7 is no state.
        self.check_error(BadNumber, {"n": 7}, signals.part, [3, 7])
        self.check_same(rows_of(signals.part([1, 2])), [[2, 0], [0, 1]])

    def test_what_is_made_of_ordered_signals_is_ordered(self):
        made = 0
        for weights in samples():
            signals = Signals(weights)
            if is_ordered(signals):
                for first in range(signals.count - 1):
                    self.assertIs(is_ordered(signals.joined(first, first + 1)), True)
                    made += 1
                for count in range(1, signals.states + 1):
                    for states in itertools.combinations(range(signals.states), count):
                        if all(any(row[state] for state in states) for row in weights):
                            self.assertIs(is_ordered(signals.part(list(states))), True)
                            made += 1
        self.assertGreater(made, 1000)

    def test_the_list_of_states_is_not_modified(self):
        states = [0, 2]
        Signals(CLEAR).part(states)
        self.check_same(states, [0, 2])

    def test_long_weights(self):
        joined = Signals([[MOST, 1], [MOST, MOST]]).joined(0, 1)
        self.assertIs(joined.row(0) == [2 * MOST, MOST + 1], True)
        self.assertIs(joined == Signals([[2 * MOST, MOST + 1]]), True)


if __name__ == "__main__":
    unittest.main()
