"""Points 0.3 to 0.6 for payoffs behind signals, and points 9.1 to 9.4."""

import itertools
import random
import unittest

from risingknobs.best import climbs
from risingknobs.crossing import setting_witness
from risingknobs.errors import BadNumber, NothingToShow
from risingknobs.grids import Grid
from risingknobs.payoffs import chosen, crosses_in_state, expected, is_payoff_fall, payoff_fall, rises_behind
from risingknobs.signals import Signals
from risingknobs.stretches import stretches
from risingknobs.tables import Table
from tests.helpers import ProgramTest, rise_by_hand
from tests.samples import all_rows
from tests.test_signals import all_weights, negative_minor_by_hand, ordered_weights

MOST = 10 ** 1000 - 1


def payoff_of(rows):
    return Table(Grid(len(rows[0]) - 1), rows)


def rows_of(table):
    return [table.row(setting) for setting in range(table.settings)]


def crosses_by_hand(rows):
    """Whether each higher level keeps what it is worth more than a lower one in all later states."""
    for low, high in itertools.combinations(range(len(rows[0])), 2):
        for row, later in itertools.combinations(rows, 2):
            if row[high] >= row[low] and later[high] < later[low]:
                return False
            if row[high] > row[low] and later[high] <= later[low]:
                return False
    return True


def expected_by_hand(rows, weights):
    levels, states = range(len(rows[0])), range(len(rows))
    return [[sum(told[state] * rows[state][level] for state in states) for level in levels] for told in weights]


def chosen_by_hand(rows, weights, low=0, high=9):
    """The levels from low to high that are worth most behind each signal."""
    told = [[(worth, level) for level, worth in enumerate(row) if low <= level <= high]
            for row in expected_by_hand(rows, weights)]
    return [[level for worth, level in row if worth == max(row)[0]] for row in told]


def falls_by_hand(early, late):
    return not rise_by_hand([(level,) for level in early], [(level,) for level in late])


def small_payoffs(states):
    """The rows of payoffs: many small ones with two or three levels, and some others that cross."""
    told = [[[0, gain] for gain in gains] for gains in itertools.product((-2, -1, 0, 1, 3), repeat=states)]
    told += all_rows(Grid(2), states, range(2)) if states <= 3 else []
    draw = random.Random(states)
    for _ in range(60):
        steps = [sorted(draw.randrange(-4, 5) for _ in range(states)) for _ in range(3)]
        told.append([[sum(step[state] for step in steps[:level]) for level in range(4)] for state in range(states)])
    return told


def small_signals():
    told = all_weights(2, 2, 2) + all_weights(3, 2, 1) + all_weights(2, 3, 1) + all_weights(2, 1, 2)
    told += all_weights(1, 3, 1) + all_weights(3, 3, 1)[::5]
    draw = random.Random("payoffs")
    for count, states in ((2, 3), (3, 4), (5, 3), (2, 5)):
        told += [ordered_weights(draw, count, states) for _ in range(6)]
        told += [[[draw.randrange(1, 5) for _ in range(states)] for _ in range(count)] for _ in range(6)]
    return told


class TestPayoffs(ProgramTest):

    def test_examples_of_the_interface(self):
        payoff = Table(Grid(1), [[0, -2], [0, 1], [0, 4]])
        clear, odd = Signals([[3, 2, 0], [1, 2, 3]]), Signals([[1, 1, 3], [2, 1, 1]])
        self.check_same(
            [crosses_in_state(payoff), expected(payoff, clear).row(0), chosen(payoff, clear),
             rises_behind(payoff, odd)],
            [True, [0, -4], [[0], [1]], True],
        )
        shown, early, late = payoff_fall(odd)
        self.check_same(
            [is_payoff_fall(odd, shown, early, late), crosses_in_state(shown), rises_behind(shown, odd),
             is_payoff_fall(odd, payoff, 0, 1)],
            [True, True, False, False],
        )

    def test_payoffs_that_cross_in_the_state(self):
        counts = {True: 0, False: 0}
        for states in (1, 2, 3, 4):
            for rows in small_payoffs(states):
                answer = crosses_by_hand(rows)
                self.assertIs(crosses_in_state(payoff_of(rows)), answer)
                self.assertIs(setting_witness(payoff_of(rows)) is None, answer)
                counts[answer] += 1
        self.assertGreater(min(counts.values()), 100)

    def test_what_is_expected(self):
        for weights in small_signals():
            signals = Signals(weights)
            for rows in small_payoffs(signals.states)[::9]:
                payoff = payoff_of(rows)
                told = expected(payoff, signals)
                self.assertIs(type(told), Table)
                self.assertIs(told.grid == payoff.grid, True)
                self.check_same([told.settings, rows_of(told)], [len(weights), expected_by_hand(rows, weights)])
                self.check_same(rows_of(payoff), rows)

    def test_what_is_chosen(self):
        for weights in small_signals():
            signals = Signals(weights)
            for rows in small_payoffs(signals.states)[::7]:
                levels = chosen_by_hand(rows, weights)
                self.check_same(chosen(payoff_of(rows), signals), levels)
                rising = not any(falls_by_hand(early, late) for early, late in itertools.combinations(levels, 2))
                self.assertIs(rises_behind(payoff_of(rows), signals), rising)

    def test_ten_levels_and_five_states(self):
        rows = [[(3 * level + 5 * state) % 7 for level in range(10)] for state in range(5)]
        weights = [[1, 0, 2, 0, 1], [0, 0, 0, 0, 9], [4, 3, 2, 1, 0], [1, 1, 1, 1, 1], [0, 1, 0, 0, 0]]
        payoff, signals = payoff_of(rows), Signals(weights)
        self.check_same(rows_of(expected(payoff, signals)), expected_by_hand(rows, weights))
        self.check_same(chosen(payoff, signals), chosen_by_hand(rows, weights))

    def test_one_of_all(self):
        payoff, signals = payoff_of([[7]]), Signals([[3]])
        self.check_same([crosses_in_state(payoff), rows_of(expected(payoff, signals))], [True, [[21]]])
        self.check_same([chosen(payoff, signals), rises_behind(payoff, signals)], [[[0]], True])

    def test_each_two_signals_count(self):
        # Behind the signals 0 and 2 alone the levels do not rise.
        payoff = payoff_of([[0, 1, 0], [0, 0, 0], [1, 0, 0]])
        signals = Signals([[1, 0, 0], [0, 1, 0], [0, 0, 1]])
        self.check_same([chosen(payoff, signals), rises_behind(payoff, signals)], [[[1], [0, 1, 2], [0]], False])
        payoff = payoff_of([[0, 1], [1, 1], [1, 1], [1, 1]])
        signals = Signals([[0, 1, 0, 0], [0, 1, 0, 0], [0, 0, 1, 0], [0, 0, 0, 1], [1, 0, 0, 0]])
        self.check_same([chosen(payoff, signals), rises_behind(payoff, signals)],
                        [[[0, 1], [0, 1], [0, 1], [0, 1], [1]], True])

    def test_the_lists_are_new_ones(self):
        payoff, signals = payoff_of([[0, 0], [0, 1]]), Signals([[1, 0], [0, 1]])
        told = chosen(payoff, signals)
        told[0].clear()
        told.pop()
        expected(payoff, signals).row(0).clear()
        self.check_same([chosen(payoff, signals), rows_of(payoff), signals.row(0)],
                        [[[0, 1], [1]], [[0, 0], [0, 1]], [1, 0]])

    def test_grids_with_other_numbers_of_knobs(self):
        signals = Signals([[1, 2], [2, 1]])
        for grid in (Grid(1, 1), Grid(0, 0), Grid(2, 0, 0)):
            # Also if the number of the settings is not that of the states.
            for settings in (1, 2, 3):
                payoff, told = Table(grid, [[0] * len(grid)] * settings), {"n": len(grid.tops)}
                self.check_error(BadNumber, told, crosses_in_state, payoff)
                for call in (expected, chosen, rises_behind):
                    self.check_error(BadNumber, told, call, payoff, signals)
                self.check_error(BadNumber, told, is_payoff_fall, signals, payoff, 0, 1)
                self.check_error(BadNumber, told, is_payoff_fall, signals, payoff, 7, -7)

    def test_other_numbers_of_states(self):
        signals = Signals([[1, 2, 3], [2, 1, 3]])
        for settings in (1, 2, 4, 5):
            payoff = payoff_of([[0, 1]] * settings)
            for call in (expected, chosen, rises_behind):
                self.check_error(BadNumber, {"n": settings}, call, payoff, signals)
            self.check_error(BadNumber, {"n": settings}, is_payoff_fall, signals, payoff, 0, 1)
            self.check_error(BadNumber, {"n": settings}, is_payoff_fall, signals, payoff, 9, 0)

    def test_long_numbers(self):
        payoff, signals = payoff_of([[0, -MOST], [0, MOST]]), Signals([[MOST, MOST - 1], [MOST - 1, MOST]])
        told = expected(payoff, signals)
        self.assertIs(rows_of(told) == [[0, -MOST], [0, MOST]], True)
        self.check_same([chosen(payoff, signals), rises_behind(payoff, signals)], [[[0], [1]], True])
        self.assertIs(is_payoff_fall(signals.part([0]), payoff.part([1]), 0, 1), False)


class TestFalls(ProgramTest):

    def test_levels_rise_for_all_payoffs_exactly_if_the_signals_are_ordered(self):
        counts = {True: 0, False: 0}
        for weights in small_signals():
            signals = Signals(weights)
            ordered = negative_minor_by_hand(weights) is None
            payoffs = [payoff_of(rows) for rows in small_payoffs(signals.states)[::2] if crosses_by_hand(rows)]
            if ordered:
                self.assertIs(all(rises_behind(payoff, signals) for payoff in payoffs), True)
            else:
                # The small payoffs need not do; this one does, as is seen by hand below.
                self.assertIs(rises_behind(payoff_fall(signals)[0], signals), False)
            counts[ordered] += 1
        self.assertGreater(min(counts.values()), 50)

    def test_they_rise_in_each_stretch(self):
        looked = 0
        for weights in small_signals():
            if negative_minor_by_hand(weights) is None:
                signals = Signals(weights)
                for rows in small_payoffs(signals.states)[::4]:
                    if crosses_by_hand(rows):
                        table = expected(payoff_of(rows), signals)
                        for region in stretches(table.grid):
                            self.assertIs(climbs(table, region), True)
                            levels = chosen_by_hand(rows, weights, region.least()[0], region.greatest()[0])
                            falls = [falls_by_hand(*pair) for pair in itertools.combinations(levels, 2)]
                            self.assertNotIn(True, falls)
                            looked += 1
        self.assertGreater(looked, 1000)

    def check_payoff_fall(self, weights):
        told = payoff_fall(Signals(weights))
        self.assertIs(type(told), tuple)
        self.check_same([type(part) for part in told], [Table, int, int])
        payoff, early, late = told
        self.assertTrue(0 <= early < late < len(weights))
        self.assertEqual([len(payoff.grid.tops), payoff.settings], [1, len(weights[0])])
        self.assertTrue(crosses_by_hand(rows_of(payoff)))
        levels = chosen_by_hand(rows_of(payoff), weights)
        self.assertTrue(falls_by_hand(levels[early], levels[late]))
        self.assertIs(is_payoff_fall(Signals(weights), payoff, early, late), True)

    def test_payoff_fall_shows_that_signals_are_not_ordered(self):
        shown = 0
        draw = random.Random("falls")
        others = [[[draw.randrange(4) ** 4 for _ in range(states)] for _ in range(count)]
                  for count in (2, 3, 5) for states in (2, 3, 4, 5) for _ in range(15)]
        for weights in small_signals() + [rows for rows in others if all(any(row) for row in rows)]:
            if negative_minor_by_hand(weights) is None:
                self.check_error(NothingToShow, {}, payoff_fall, Signals(weights))
            else:
                self.check_payoff_fall(weights)
                shown += 1
        self.assertGreater(shown, 150)

    def test_payoff_falls_by_two_states_and_two_signals_among_others(self):
        for states in itertools.combinations(range(5), 2):
            for signals in itertools.combinations(range(5), 2):
                # Only between these two signals and states there is a minor below 0.
                weights = [[100 * 7 ** (signal * state) for state in range(5)] for signal in range(5)]
                self.check_error(NothingToShow, {}, payoff_fall, Signals(weights))
                weights[signals[1]][states[1]] = 1
                self.check_payoff_fall(weights)
                few = [[0] * 5 for _ in range(2)]
                few[0][states[1]] = few[1][states[0]] = 1
                self.check_payoff_fall(few)

    def test_payoff_falls_of_lopsided_weights(self):
        for weights in ([[10 ** 9, 1, 2], [10 ** 9, 2, 1]], [[2, 1, 10 ** 9], [1, 1, 10 ** 9], [2, 1, 10 ** 9]],
                        [[1, 10 ** 9, 2], [2, 10 ** 9, 1]], [[10 ** 9, 1, 0, 5, 10 ** 9], [10 ** 9, 0, 1, 0, 10 ** 9],
                                                             [10 ** 9, 1, 1, 1, 0]],
                        [[MOST, MOST - 1, MOST], [MOST, MOST - 2, MOST]], [[MOST - 1, MOST], [MOST, MOST]],
                        [[MOST, 1, 2, MOST], [MOST, 2, 1, MOST]], [[0, MOST], [1, 0]]):
            self.check_payoff_fall(weights)

    def test_nothing_to_show(self):
        for weights in ([[1]], [[1, 2, 3]], [[1], [2], [1]], [[1, 2], [2, 4]], [[3, 2, 0], [1, 2, 3]],
                        [[MOST, MOST], [MOST - 1, MOST]]):
            self.check_error(NothingToShow, {}, payoff_fall, Signals(weights))

    def test_is_payoff_fall_for_small_payoffs(self):
        counts = {(True, True): 0, (True, False): 0, (False, True): 0, (False, False): 0}
        for weights in small_signals()[::3]:
            signals = Signals(weights)
            for rows in small_payoffs(signals.states)[::13]:
                levels, crossing = chosen_by_hand(rows, weights), crosses_by_hand(rows)
                for early, late in itertools.combinations(range(len(weights)), 2):
                    falls = falls_by_hand(levels[early], levels[late])
                    self.assertIs(is_payoff_fall(signals, payoff_of(rows), early, late), crossing and falls)
                    counts[crossing, falls] += 1
        self.assertGreater(min(counts.values()), 20)

    def test_payoffs_that_do_not_cross(self):
        signals = Signals([[1, 0], [0, 1]])
        payoff = payoff_of([[0, 1], [1, 0]])
        self.check_same([chosen(payoff, signals), crosses_in_state(payoff)], [[[1], [0]], False])
        self.assertIs(is_payoff_fall(signals, payoff, 0, 1), False)

    def test_signals_that_do_not_fit(self):
        signals = Signals([[1, 0], [0, 1], [1, 1]])
        for rows in ([[0, 1], [1, 0]], [[1, 0], [0, 1]]):
            payoff = payoff_of(rows)
            for early, late, n in ((3, 0, 3), (-1, 0, -1), (0, 3, 3), (0, -1, -1), (-2, -1, -2), (5, 7, 5), (2, 5, 5),
                                   (1, -3, -3), (1, 0, 0), (2, 1, 1), (1, 1, 1), (0, 0, 0), (2, 0, 0)):
                self.check_error(BadNumber, {"n": n}, is_payoff_fall, signals, payoff, early, late)

    def test_nothing_is_modified(self):
        weights, rows = [[1, 2], [2, 1]], [[0, -1], [0, 1]]
        signals, payoff = Signals(weights), payoff_of(rows)
        payoff_fall(signals)
        is_payoff_fall(signals, payoff, 0, 1)
        rises_behind(payoff, signals)
        self.check_same([rows_of(payoff), [signals.row(0), signals.row(1)]], [rows, weights])


if __name__ == "__main__":
    unittest.main()
