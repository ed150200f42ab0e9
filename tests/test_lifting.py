"""Points 0.3 to 0.6 for lifting tables, and points 6.1 to 6.4."""

import itertools
import unittest

from risingknobs.crossing import is_crossing, is_fall
from risingknobs.errors import NothingToShow
from risingknobs.grids import Grid
from risingknobs.lifting import is_lifting, lift_witness, price_fall, step_witness
from risingknobs.regions import Region
from risingknobs.tables import Prices, Table
from tests.helpers import ProgramTest
from tests.samples import all_rows, drawn, exhaustive, is_fall_by_hand, larger, worths_by_hand


def raised(option, *knobs):
    """The option with one level more at some knobs."""
    return tuple(level + 1 if knob in knobs else level for knob, level in enumerate(option))


def lift_witness_by_hand(grid, rows):
    told = []
    for setting, row in enumerate(rows):
        worths = worths_by_hand(grid, row)
        for option in grid.options:
            for one, other in itertools.combinations(range(len(grid.tops)), 2):
                both = raised(option, one, other)
                if both in worths:
                    behind = worths[both] - worths[raised(option, other)]
                    without = worths[raised(option, one)] - worths[option]
                    if behind < without:
                        told.append((setting, option, one, other))
    return min(told, default=None)


def step_witness_by_hand(grid, rows):
    told = []
    for setting in range(len(rows) - 1):
        now, then = worths_by_hand(grid, rows[setting]), worths_by_hand(grid, rows[setting + 1])
        for option in grid.options:
            for knob in range(len(grid.tops)):
                step = raised(option, knob)
                if step in now and then[step] - then[option] < now[step] - now[option]:
                    told.append((setting, option, knob))
    return min(told, default=None)


def lifts_by_hand(grid, rows):
    return lift_witness_by_hand(grid, rows) is None and step_witness_by_hand(grid, rows) is None


def small_prices(grid, most):
    """All prices of which the steps are not beyond some number, and the first ones cost nothing."""
    steps = range(-most, most + 1)
    rows = [[[sum(told[:level]) for level in range(top + 1)] for told in itertools.product(steps, repeat=top)]
            for top in grid.tops]
    return [Prices(grid, list(told)) for told in itertools.product(*rows)]


class TestWitnesses(ProgramTest):

    def test_examples_of_the_interface(self):
        table = Table(Grid(1, 1), [[0, 5, 5, 6]])
        self.check_same(
            [is_crossing(table), is_lifting(table), lift_witness(table),
             is_lifting(Table(Grid(1, 1), [[0, 1, 2, 3], [0, 2, 2, 5]]))],
            [True, False, (0, (0, 0), 0, 1), True],
        )
        prices, first, second, early, late = price_fall(table)
        self.check_same(
            [is_fall(table.less(prices), first, second, early, late),
             step_witness(Table(Grid(2), [[0, 1, 3], [0, 1, 2]]))],
            [True, (0, (1,), 0)],
        )

    def test_all_tables(self):
        counts = {True: 0, False: 0}
        for grid, rows in exhaustive() + larger() + drawn((3, 3), 10) + drawn((1, 1, 3), 10) + drawn((9,), 2):
            table = Table(grid, rows)
            self.check_same(lift_witness(table), lift_witness_by_hand(grid, rows))
            self.check_same(step_witness(table), step_witness_by_hand(grid, rows))
            expected = lifts_by_hand(grid, rows)
            self.assertIs(is_lifting(table), expected)
            counts[expected] += 1
        self.assertGreater(min(counts.values()), 100)

    def test_each_two_of_three_knobs(self):
        told = {(0, 0, 1, 0, 1, 0, 1, 1): ((0, 0, 0), 0, 1), (0, 1, 0, 1, 1, 1, 1, 1): ((0, 0, 0), 0, 2),
                (0, 1, 1, 1, 0, 1, 1, 1): ((0, 0, 0), 1, 2), (0, 0, 0, 0, 0, 0, 0, -1): ((0, 0, 1), 0, 1),
                (0, 0, 0, 0, 0, 0, 1, 0): ((0, 1, 0), 0, 2), (0, 0, 0, 0, 0, 0, 1, 1): None,
                (0, 0, 0, 0, 0, 0, 0, 1): None}
        for row, place in told.items():
            table = Table(Grid(1, 1, 1), [[0] * 8, row])
            self.check_same(lift_witness(table), None if place is None else (1, *place))

    def test_steps_worth_as_much_do_lift(self):
        table = Table(Grid(1, 1), [[0, 3, -2, 1], [9, 12, 7, 10]])
        self.check_same([lift_witness(table), step_witness(table), is_lifting(table)], [None, None, True])
        self.check_same(lift_witness(Table(Grid(1, 1), [[0, 3, -2, 0]])), (0, (0, 0), 0, 1))
        self.check_same(lift_witness(Table(Grid(1, 1), [[0, 3, -2, 2]])), None)
        self.check_same(step_witness(Table(Grid(1), [[0, 3], [5, 7]])), (0, (0,), 0))
        self.check_same(step_witness(Table(Grid(1), [[0, 3], [5, 9]])), None)

    def test_the_last_setting_has_no_next_one(self):
        self.check_same(step_witness(Table(Grid(2), [[5, 1, 9]])), None)
        self.check_same(step_witness(Table(Grid(1), [[0, 1], [0, 2], [0, 5], [0, 9], [0, 3]])), (3, (0,), 0))
        self.check_same(step_witness(Table(Grid(1), [[0, 1], [0, 2], [0, 5], [0, 9], [0, 10]])), None)

    def test_knobs_with_the_top_0(self):
        self.check_same(lift_witness(Table(Grid(0, 2), [[3, 1, 2]])), None)
        self.check_same(lift_witness(Table(Grid(1, 0, 1), [[0, 1, 1, 1]])), (0, (0, 0, 0), 0, 2))
        self.check_same(step_witness(Table(Grid(0, 1), [[0, 1], [0, 0]])), (0, (0, 0), 1))
        for table in (Table(Grid(0), [[3], [1]]), Table(Grid(0, 0, 0), [[3], [1], [2]])):
            self.check_same([lift_witness(table), step_witness(table), is_lifting(table)], [None, None, True])

    def test_either_witness_is_enough(self):
        knobs, settings = Table(Grid(1, 1), [[0, 1, 1, 1]]), Table(Grid(1), [[0, 1], [0, 0]])
        self.check_same([step_witness(knobs), is_lifting(knobs)], [None, False])
        self.check_same([lift_witness(settings), is_lifting(settings)], [None, False])

    def test_long_worths(self):
        most = 10 ** 1000 - 1
        self.check_same(lift_witness(Table(Grid(1, 1), [[-most, most, most, 3 * most]])), None)
        self.check_same(lift_witness(Table(Grid(1, 1), [[-most, most, most, 3 * most - 1]])), (0, (0, 0), 0, 1))
        self.check_same(step_witness(Table(Grid(1), [[-most, most], [0, 2 * most - 1]])), (0, (0,), 0))


class TestLifting(ProgramTest):

    def test_lifting_exactly_if_crossing_at_all_prices(self):
        counts = {True: 0, False: 0}
        samples = [(Grid(1, 1), rows) for rows in all_rows(Grid(1, 1), 1, range(3))]
        samples += [(Grid(2), rows) for rows in all_rows(Grid(2), 2, range(3))[::7]]
        samples += [(Grid(1, 1), rows) for rows in all_rows(Grid(1, 1), 2, range(2))[::3]]
        for grid, rows in samples:
            table = Table(grid, rows)
            expected = all(is_crossing(table.less(prices)) for prices in small_prices(grid, 3))
            self.assertIs(is_lifting(table), expected)
            counts[expected] += 1
        self.assertGreater(min(counts.values()), 20)

    def test_larger_lifting_tables_less_some_prices(self):
        for tops in ((2, 1), (1, 1, 1), (3,), (1, 0, 2)):
            grid = Grid(*tops)
            lifting = [Table(grid, rows) for _, rows in drawn(tops, 4) if lifts_by_hand(grid, rows)]
            self.assertGreater(len(lifting), 3)
            for table in lifting:
                for prices in small_prices(grid, 2)[::5]:
                    self.assertIs(is_crossing(table.less(prices)), True)
                    self.assertIs(is_lifting(table.less(prices)), True)

    def test_lifting_tables_are_crossing(self):
        kinds = {(True, True): 0, (True, False): 0, (False, False): 0}
        for grid, rows in exhaustive() + larger():
            table = Table(grid, rows)
            kinds[is_crossing(table), is_lifting(table)] += 1
        self.assertGreater(min(kinds.values()), 50)

    def test_sums_of_lifting_tables(self):
        for tops in ((2, 1), (1, 1, 1), (3,), (2, 2)):
            tables = [Table(Grid(*tops), rows) for _, rows in drawn(tops, 15)]
            lifting = [table for table in tables if is_lifting(table)]
            pairs = [(one, other) for one in lifting for other in lifting if one.settings == other.settings]
            self.assertGreater(len(pairs), 20)
            for one, other in pairs:
                self.assertIs(is_lifting(one + other), True)


class TestPriceFall(ProgramTest):

    def check_price_fall(self, grid, rows, table):
        told = price_fall(table)
        self.assertIs(type(told), tuple)
        self.check_same([type(part) for part in told], [Prices, Region, Region, int, int])
        prices, first, second, early, late = told
        self.assertIs(all(part.grid == grid for part in (prices, first, second)), True)
        self.assertTrue(0 <= early <= late < len(rows))
        less = [[worth - prices(option) for option, worth in zip(grid.options, row)] for row in rows]
        self.assertTrue(is_fall_by_hand(grid, less, first.options, second.options, early, late))
        self.assertIs(is_fall(table.less(prices), first, second, early, late), True)
        return early == late

    def test_all_tables(self):
        shown = {True: 0, False: 0}
        for grid, rows in exhaustive() + larger() + drawn((3, 3), 5) + drawn((1, 1, 3), 5) + drawn((9,), 2):
            table = Table(grid, rows)
            if lifts_by_hand(grid, rows):
                self.check_error(NothingToShow, {}, price_fall, table)
            else:
                shown[self.check_price_fall(grid, rows, table)] += 1
            self.check_same([table.row(setting) for setting in range(len(rows))], rows)
        self.assertGreater(min(shown.values()), 50)

    def test_long_worths(self):
        most = 10 ** 1000 - 1
        for tops, rows in (((1, 1), [[-most, most, most, 3 * most - 1]]), ((1,), [[-most, most], [0, 2 * most - 1]]),
                           ((2,), [[0, most, -most], [0, most, -most - 1]]), ((1, 1), [[-most, most, most, most]])):
            self.check_price_fall(Grid(*tops), rows, Table(Grid(*tops), rows))

    def test_nothing_to_show(self):
        for table in (Table(Grid(0), [[5]]), Table(Grid(1, 1), [[0, 1, 2, 3], [0, 2, 2, 5]]),
                      Table(Grid(3), [[0, 9, 1, 2], [5, 20, 12, 13]]), Table(Grid(2, 1), [[0] * 6] * 5)):
            self.check_error(NothingToShow, {}, price_fall, table)


if __name__ == "__main__":
    unittest.main()
