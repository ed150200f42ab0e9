"""Points 0.3 to 0.6 for crossing tables, and points 5.1 to 5.4."""

import unittest

from risingknobs.crossing import fall, is_crossing, is_fall, knob_witness, setting_witness
from risingknobs.errors import BadSetting, NothingToShow, UnlikeGrids
from risingknobs.grids import Grid
from risingknobs.regions import Region, all_regions, box, whole
from risingknobs.tables import Table
from tests.helpers import ProgramTest, greater_by_hand, lesser_by_hand
from tests.samples import (drawn, exhaustive, falls_by_hand, is_below_by_hand, is_fall_by_hand, larger,
                           worths_by_hand)


def knob_witness_by_hand(grid, rows):
    told = []
    for setting, row in enumerate(rows):
        worths = worths_by_hand(grid, row)
        for x in grid.options:
            for y in grid.options:
                lesser, greater = lesser_by_hand(x, y), greater_by_hand(x, y)
                weak = worths[x] < worths[lesser] or worths[greater] >= worths[y]
                strict = worths[x] <= worths[lesser] or worths[greater] > worths[y]
                if not (weak and strict):
                    told.append((setting, x, y))
    return min(told, default=None)


def setting_witness_by_hand(grid, rows):
    told = []
    for early, before in enumerate([worths_by_hand(grid, row) for row in rows]):
        for late, behind in enumerate([worths_by_hand(grid, row) for row in rows]):
            for low in grid.options:
                for high in grid.options:
                    weak = before[high] < before[low] or behind[high] >= behind[low]
                    strict = before[high] <= before[low] or behind[high] > behind[low]
                    ordered = early < late and low != high and is_below_by_hand(low, high)
                    if ordered and not (weak and strict):
                        told.append((early, late, low, high))
    return min(told, default=None)


def crosses_by_hand(grid, rows):
    """Whether a table crosses in its knobs and in its settings."""
    return knob_witness_by_hand(grid, rows) is None and setting_witness_by_hand(grid, rows) is None

class TestWitnesses(ProgramTest):

    def test_examples_of_the_interface(self):
        self.check_same(
            [knob_witness(Table(Grid(1, 1), [[0, 1, 1, 1]])), is_crossing(Table(Grid(1, 1), [[0, 5, 5, 6]]))],
            [(0, (0, 1), (1, 0)), True],
        )
        table = Table(Grid(2), [[0, 1, 1], [0, 1, 0], [5, 5, 5]])
        self.check_same(
            [knob_witness(table), setting_witness(table), setting_witness(table.part([0, 2]))],
            [None, (0, 1, (0,), (2,)), (0, 1, (0,), (1,))],
        )
        first, second, early, late = fall(table)
        self.check_same([is_fall(table, first, second, early, late), is_fall(table, first, second, early, early)],
                        [True, False])

    def test_all_tables(self):
        counts = {True: 0, False: 0}
        for grid, rows in exhaustive() + larger() + drawn((3, 3), 8) + drawn((1, 1, 3), 8):
            table = Table(grid, rows)
            of_knobs, of_settings = knob_witness_by_hand(grid, rows), setting_witness_by_hand(grid, rows)
            self.check_same(knob_witness(table), of_knobs)
            self.check_same(setting_witness(table), of_settings)
            expected = of_knobs is None and of_settings is None
            self.assertIs(is_crossing(table), expected)
            counts[expected] += 1
        self.assertGreater(min(counts.values()), 100)

    def test_gains_that_are_0_count_once_and_gains_above_0_twice(self):
        told = {(0, 0, 0, 0): None, (0, 1, 0, 0): ((0, 1), (1, 0)), (0, 0, 1, 0): ((0, 1), (1, 0)),
                (0, 0, 1, 1): None, (0, 1, 1, 1): ((0, 1), (1, 0)), (1, 0, 1, 0): None,
                (1, 0, 0, -1): None, (1, 1, 0, -1): ((0, 1), (1, 0)), (1, 0, 0, 0): None, (0, -1, 0, -1): None,
                (0, -1, 0, -2): ((1, 0), (0, 1))}
        for row, pair in told.items():
            expected = None if pair is None else (1, *pair)
            self.check_same(knob_witness(Table(Grid(1, 1), [[0, 1, 1, 2], row])), expected)

    def test_two_settings_of_two_options(self):
        told = {(0, 0): None, (0, 1): None, (0, -1): (0, 1, (0,), (1,)), (1, 1): None, (1, 0): (0, 1, (0,), (1,)),
                (1, -1): (0, 1, (0,), (1,)), (1, 9): None, (9, 1): None, (-1, -1): None, (-1, 0): None, (-1, 1): None,
                (-1, -9): None}
        for (early, late), witness in told.items():
            self.check_same(setting_witness(Table(Grid(1), [[0, early], [0, late]])), witness)
            self.check_same(setting_witness(Table(Grid(1), [[7, 7 + early], [-3, -3 + late]])), witness)

    def test_settings_that_are_not_neighbours(self):
        # The gains of (1,) over (0,) are 0, 1 and 0, and then 0, -1 and 0.
        table = Table(Grid(1), [[0, 0], [0, 1], [0, 0]])
        self.check_same(setting_witness(table), (1, 2, (0,), (1,)))
        table = Table(Grid(1), [[0, 0], [0, -1], [0, 0], [0, -1]])
        self.check_same(setting_witness(table), (0, 1, (0,), (1,)))
        table = Table(Grid(1), [[0, 0], [0, 1], [0, 1], [0, -1]])
        self.check_same(setting_witness(table), (0, 3, (0,), (1,)))
        table = Table(Grid(2), [[0, 0, 0], [0, 0, 0], [0, 1, 0], [0, 1, -1]])
        self.check_same(setting_witness(table), (0, 2, (1,), (2,)))

    def test_options_that_are_not_below_one_another_do_not_count(self):
        table = Table(Grid(1, 1), [[0, 1, 2, 3], [0, 2, 1, 3]])
        self.check_same([setting_witness(table), is_crossing(table)], [None, True])

    def test_one_option_and_one_setting(self):
        for table in (Table(Grid(0), [[3], [2], [1]]), Table(Grid(0, 0, 0), [[3], [2]]), Table(Grid(2), [[3, 9, 1]])):
            self.check_same([knob_witness(table), setting_witness(table), is_crossing(table)], [None, None, True])

    def test_long_worths(self):
        most = 10 ** 1000 - 1
        table = Table(Grid(1, 1), [[-most, most - 1, most, most]])
        self.check_same([knob_witness(table), is_crossing(table)], [(0, (0, 1), (1, 0)), False])
        table = Table(Grid(1), [[most - 1, most], [1 - most, -most]])
        self.check_same([setting_witness(table), is_crossing(table)], [(0, 1, (0,), (1,)), False])
        self.assertIs(is_crossing(Table(Grid(1, 1), [[-most, most - 1, most - 1, most]])), True)

    def test_either_witness_is_enough(self):
        knobs = Table(Grid(1, 1), [[0, 1, 1, 1]])
        settings = Table(Grid(1), [[0, 1], [1, 0]])
        self.check_same([setting_witness(knobs), is_crossing(knobs)], [None, False])
        self.check_same([knob_witness(settings), is_crossing(settings)], [None, False])


class TestFalls(ProgramTest):

    def test_crossing_exactly_if_no_regions_and_settings_fall(self):
        counts = {True: 0, False: 0}
        for grid, rows in exhaustive() + larger():
            # One knob of nine levels has too many pairs of regions to go through them.
            if grid.tops != (8,):
                expected = not falls_by_hand(grid, rows)
                self.assertIs(is_crossing(Table(grid, rows)), expected)
                counts[expected] += 1
        self.assertGreater(min(counts.values()), 100)

    def test_fall_shows_that_a_table_is_not_crossing(self):
        shown = {"same": 0, "other": 0}
        for grid, rows in exhaustive() + larger() + drawn((3, 3), 5):
            table = Table(grid, rows)
            if crosses_by_hand(grid, rows):
                self.check_error(NothingToShow, {}, fall, table)
                continue
            told = fall(table)
            self.check_same([type(part) for part in told], [Region, Region, int, int])
            self.assertIs(type(told), tuple)
            first, second, early, late = told
            self.assertIs(first.grid == grid and second.grid == grid, True)
            self.assertTrue(0 <= early <= late < len(rows))
            self.assertTrue(is_fall_by_hand(grid, rows, first.options, second.options, early, late))
            self.assertIs(is_fall(table, first, second, early, late), True)
            shown["same" if early == late else "other"] += 1
        self.assertGreater(min(shown.values()), 50)

    def test_fall_of_long_worths(self):
        most = 10 ** 1000 - 1
        for rows in ([[most, most, most, most - 1]], [[0, most, 0, most], [most, most, most, most]]):
            table = Table(Grid(1, 1), rows)
            first, second, early, late = fall(table)
            self.assertTrue(is_fall_by_hand(table.grid, rows, first.options, second.options, early, late))

    def test_nothing_to_show(self):
        for table in (Table(Grid(0), [[5]]), Table(Grid(1, 1), [[0, 5, 5, 6]]), Table(Grid(2, 1), [[0] * 6] * 5),
                      Table(Grid(1), [[1, 0], [0, 0], [0, 2]])):
            self.check_error(NothingToShow, {}, fall, table)

    def test_is_fall_for_all_regions_and_settings(self):
        counts = {True: 0, False: 0}
        for grid, rows in drawn((1, 1), 5) + drawn((3,), 5) + drawn((2, 1), 2)[1::3]:
            table, regions = Table(grid, rows), list(all_regions(grid))
            for first in regions:
                for second in regions[::2]:
                    for early in range(len(rows)):
                        for late in range(early, len(rows)):
                            expected = is_fall_by_hand(grid, rows, first.options, second.options, early, late)
                            self.assertIs(is_fall(table, first, second, early, late), expected)
                            counts[expected] += 1
        self.assertGreater(min(counts.values()), 100)

    def test_regions_of_which_the_first_one_does_not_lie_under_the_second_one(self):
        table = Table(Grid(1), [[0, 1], [1, 0]])
        low, high = Region(table.grid, [(0,)]), Region(table.grid, [(1,)])
        self.assertIs(is_fall(table, high, low, 0, 1), False)
        self.assertIs(is_fall(table, high, whole(table.grid), 0, 1), False)
        self.assertIs(is_fall(table, low, high, 0, 1), False)
        self.assertIs(is_fall(table, whole(table.grid), whole(table.grid), 0, 1), True)

    def test_regions_of_other_grids(self):
        table = Table(Grid(1, 1), [[0, 1, 1, 1], [0, 0, 0, 0]])
        own, other, third = whole(Grid(1, 1)), whole(Grid(3)), whole(Grid(1, 1, 0))
        of_other, of_third = {"first": (1, 1), "second": (3,)}, {"first": (1, 1), "second": (1, 1, 0)}
        self.check_error(UnlikeGrids, of_other, is_fall, table, other, own, 0, 0)
        self.check_error(UnlikeGrids, of_other, is_fall, table, own, other, 0, 0)
        self.check_error(UnlikeGrids, of_other, is_fall, table, other, third, 0, 0)
        self.check_error(UnlikeGrids, of_third, is_fall, table, third, other, 0, 0)
        self.check_error(UnlikeGrids, of_third, is_fall, table, own, third, 9, -1)

    def test_settings_that_do_not_fit(self):
        table = Table(Grid(1), [[0, 1], [1, 0], [0, 0]])
        region, apart = whole(Grid(1)), Region(Grid(1), [(1,)])
        for early, late, n in ((3, 0, 3), (-1, 0, -1), (0, 3, 3), (0, -1, -1), (7, 8, 7), (-2, -1, -2), (1, 0, 0),
                               (2, 1, 1), (2, 5, 5), (2, -1, -1), (5, 0, 5)):
            self.check_error(BadSetting, {"n": n}, is_fall, table, region, region, early, late)
            # Also if the first region does not lie under the second one.
            self.check_error(BadSetting, {"n": n}, is_fall, table, apart, region, early, late)

    def test_nothing_is_modified(self):
        rows = [[0, 1, 1, 1], [3, 2, 1, 0]]
        table = Table(Grid(1, 1), rows)
        region = box(table.grid, (0, 0), (0, 1))
        fall(table)
        is_fall(table, region, region, 0, 1)
        self.check_same([table.row(0), table.row(1), region.options], [*rows, ((0, 0), (0, 1))])


if __name__ == "__main__":
    unittest.main()
