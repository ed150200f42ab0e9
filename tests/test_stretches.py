"""Points 0.3 to 0.6 for stretches, and points 7.1 to 7.4."""

import itertools
import unittest

from risingknobs.crossing import is_crossing
from risingknobs.errors import BadNumber, BadSetting, NothingToShow
from risingknobs.grids import Grid
from risingknobs.regions import Region, box
from risingknobs.stretches import (crosses_in_stretches, falling_stretch, is_single_peaked, peaks, stretch_witness,
                                   stretches)
from risingknobs.tables import Table
from tests.helpers import ProgramTest, rise_by_hand
from tests.samples import all_rows, best_by_hand, drawn

OTHER_GRIDS = (Grid(1, 1), Grid(0, 0), Grid(3, 0), Grid(0, 2, 0))


def one_knob(rows):
    return Table(Grid(len(rows[0]) - 1), rows)


def samples():
    """The rows of tables over a grid with one knob: all of some small ones, and some others."""
    told = []
    for top, settings, most in ((2, 2, 2), (1, 3, 2), (2, 3, 1), (3, 2, 1), (2, 1, 2), (0, 5, 0)):
        told += all_rows(Grid(top), settings, range(most + 1))
    for top, count in ((3, 30), (4, 20), (9, 5)):
        told += [rows for _, rows in drawn((top,), count)]
    return told


def stretch_witness_by_hand(rows):
    told = []
    for early, late in itertools.combinations(range(len(rows)), 2):
        for low, high in itertools.combinations(range(len(rows[0])), 2):
            before, behind = rows[early], rows[late]
            if all(before[high] >= before[level] for level in range(low, high + 1)):
                if behind[high] < behind[low] or (before[high] > before[low] and behind[high] <= behind[low]):
                    told.append((early, late, low, high))
    return min(told, default=None)


def falls_in_by_hand(rows, low, high, early, late):
    """Whether the best levels from low to high at early do not lie under those at late."""
    grid, options = Grid(len(rows[0]) - 1), [(level,) for level in range(low, high + 1)]
    return not rise_by_hand(best_by_hand(grid, rows[early], options), best_by_hand(grid, rows[late], options))


def falls_by_hand(rows):
    levels, settings = range(len(rows[0])), range(len(rows))
    return any(falls_in_by_hand(rows, low, high, early, late)
               for low, high in itertools.combinations_with_replacement(levels, 2)
               for early, late in itertools.combinations(settings, 2))


class TestStretches(ProgramTest):

    def test_examples_of_the_interface(self):
        table = Table(Grid(2), [[1, 3, 2], [0, 1, 5], [4, 1, 3]])
        self.check_same(
            [stretch_witness(table), crosses_in_stretches(table.part([0, 1])), peaks(table, 0), peaks(table, 2)],
            [(0, 2, 0, 1), True, [1], [0, 2]],
        )
        self.check_same([str(region) for region in stretches(Grid(1))], ["1; 0", "1; 0; 1", "1; 1"])

    def test_stretches_of_all_grids_with_one_knob(self):
        for top in range(10):
            told = stretches(Grid(top))
            self.assertIs(type(told), list)
            expected = [tuple((level,) for level in range(low, high + 1))
                        for low in range(top + 1) for high in range(low, top + 1)]
            self.check_same([region.options for region in told], expected)
            for region in told:
                self.assertIs(type(region), Region)
                self.assertIs(region.grid == Grid(top), True)

    def test_one_level_alone(self):
        self.check_same([region.options for region in stretches(Grid(0))], [((0,),)])
        table = one_knob([[3], [1], [2]])
        self.check_same([stretch_witness(table), crosses_in_stretches(table)], [None, True])
        self.check_same([peaks(table, 2), is_single_peaked(table, 2)], [[0], True])
        self.check_error(NothingToShow, {}, falling_stretch, table)

    def test_the_lists_are_new_ones(self):
        grid = Grid(2)
        stretches(grid).clear()
        self.check_same(len(stretches(grid)), 6)
        table = one_knob([[1, 0, 2]])
        peaks(table, 0).clear()
        self.check_same([peaks(table, 0), table.row(0)], [[0, 2], [1, 0, 2]])

    def test_grids_with_other_numbers_of_knobs(self):
        for grid in OTHER_GRIDS:
            table, told = Table(grid, [[0] * len(grid)] * 2), {"n": len(grid.tops)}
            self.check_error(BadNumber, told, stretches, grid)
            for call in (stretch_witness, crosses_in_stretches, falling_stretch):
                self.check_error(BadNumber, told, call, table)
            for call in (peaks, is_single_peaked):
                for setting in (0, 1, 2, -1):
                    self.check_error(BadNumber, told, call, table, setting)


class TestWitness(ProgramTest):

    def test_all_tables(self):
        counts = {True: 0, False: 0}
        for rows in samples():
            table, expected = one_knob(rows), stretch_witness_by_hand(rows)
            self.check_same([stretch_witness(table), crosses_in_stretches(table)], [expected, expected is None])
            counts[expected is None] += 1
        self.assertGreater(min(counts.values()), 100)

    def test_the_levels_between_count_at_the_early_setting_alone(self):
        # 2 is worth more than 0 at first and less later, but 1 is worth more than 2.
        self.check_same(stretch_witness(one_knob([[0, 3, 2], [1, 1, 0]])), (0, 1, 0, 1))
        self.check_same(stretch_witness(one_knob([[0, 3, 2], [0, 1, -1]])), None)
        self.check_same(stretch_witness(one_knob([[0, 2, 2], [0, 1, -1]])), (0, 1, 0, 2))
        self.check_same(stretch_witness(one_knob([[0, 2, 2], [0, 9, 1]])), (0, 1, 1, 2))
        self.check_same(stretch_witness(one_knob([[0, 1, 2], [0, 9, 9]])), (0, 1, 1, 2))
        self.check_same(stretch_witness(one_knob([[0, 1, 2], [0, 8, 9]])), None)

    def test_low_counts_among_the_levels_between(self):
        self.check_same(stretch_witness(one_knob([[1, 0], [5, 0]])), None)
        self.check_same(stretch_witness(one_knob([[1, 1], [5, 4]])), (0, 1, 0, 1))
        self.check_same(stretch_witness(one_knob([[1, 1], [5, 5]])), None)
        self.check_same(stretch_witness(one_knob([[1, 2], [5, 5]])), (0, 1, 0, 1))
        self.check_same(stretch_witness(one_knob([[1, 2], [5, 6]])), None)

    def test_settings_that_are_not_neighbours(self):
        self.check_same(stretch_witness(one_knob([[0, 1], [0, 1], [0, 1], [0, 1], [0, 0]])), (0, 4, 0, 1))
        self.check_same(stretch_witness(one_knob([[1, 0], [0, 1], [0, 1], [1, 0]])), (1, 3, 0, 1))

    def test_one_setting(self):
        table = one_knob([[5, 1, 9, 0]])
        self.check_same([stretch_witness(table), crosses_in_stretches(table)], [None, True])

    def test_worths_alike(self):
        table = one_knob([[4, 4, 4], [0, 0, 0]])
        self.check_same([stretch_witness(table), peaks(table, 0), is_single_peaked(table, 0)], [None, [], True])

    def test_long_worths(self):
        most = 10 ** 1000 - 1
        self.check_same(stretch_witness(one_knob([[most - 1, most], [-most, -most]])), (0, 1, 0, 1))
        self.check_same(stretch_witness(one_knob([[most - 1, most], [-most, 1 - most]])), None)


class TestFallingStretch(ProgramTest):

    def test_stretches_rise_exactly_if_the_table_crosses_in_stretches(self):
        counts = {True: 0, False: 0}
        for rows in samples():
            expected = not falls_by_hand(rows)
            self.assertIs(crosses_in_stretches(one_knob(rows)), expected)
            counts[expected] += 1
        self.assertGreater(min(counts.values()), 100)

    def test_falling_stretch_shows_that_a_table_does_not_cross_in_stretches(self):
        shown = 0
        for rows in samples():
            table = one_knob(rows)
            if not falls_by_hand(rows):
                self.check_error(NothingToShow, {}, falling_stretch, table)
                continue
            told = falling_stretch(table)
            self.assertIs(type(told), tuple)
            self.check_same([type(part) for part in told], [Region, int, int])
            region, early, late = told
            self.assertIs(region.grid == table.grid, True)
            self.assertTrue(0 <= early < late < len(rows))
            low, high = region.least()[0], region.greatest()[0]
            self.assertIs(region == box(table.grid, (low,), (high,)), True)
            self.assertTrue(falls_in_by_hand(rows, low, high, early, late))
            shown += 1
        self.assertGreater(shown, 100)

    def test_long_worths(self):
        most = 10 ** 1000 - 1
        region, early, late = falling_stretch(one_knob([[0, most - 1, most], [0, -most, 0]]))
        self.check_same([early, late, region.greatest()], [0, 1, region.options[-1]])
        self.assertIn(region.options, (((0,), (1,)), ((0,), (1,), (2,))))

    def test_crossing_tables_cross_in_stretches(self):
        kinds = {(True, True): 0, (False, True): 0, (False, False): 0}
        for rows in samples():
            table = one_knob(rows)
            kinds[is_crossing(table), crosses_in_stretches(table)] += 1
        self.assertGreater(min(kinds.values()), 10)


class TestPeaks(ProgramTest):

    def test_all_rows(self):
        for count in (1, 2, 3, 4, 5):
            for row in itertools.product(range(3), repeat=count):
                table = one_knob([[9] * count, list(row)])
                expected = [level for level in range(count)
                            if all(row[level] > row[near] for near in (level - 1, level + 1) if 0 <= near < count)]
                self.check_same(peaks(table, 1), expected)

    def test_ten_levels(self):
        table = one_knob([[3, 1, 4, 1, 5, 9, 2, 6, 5, 3], [9, 8, 7, 6, 5, 4, 3, 2, 1, 2]])
        self.check_same([peaks(table, 0), peaks(table, 1)], [[0, 2, 5, 7], [0, 9]])

    def test_single_peaked_rows(self):
        counts = {True: 0, False: 0}
        for count in (1, 2, 3, 4, 5):
            for row in itertools.product(range(3), repeat=count):
                table = one_knob([[0, 1, 0, 1, 0][:count], list(row)])
                expected = any(
                    all(row[level] <= row[level + 1] for level in range(top))
                    and all(row[level] >= row[level + 1] for level in range(top, count - 1))
                    for top in range(count)
                )
                self.assertIs(is_single_peaked(table, 1), expected)
                counts[expected] += 1
        self.assertGreater(min(counts.values()), 50)

    def test_single_peaked_by_hand(self):
        told = {(1, 2, 3): True, (3, 2, 1): True, (1, 3, 2): True, (2, 1, 3): False, (1, 2, 2, 1): True,
                (2, 1, 1): True, (1, 1, 2): True, (2, 1, 1, 2): False, (2, 2, 1, 2): False, (-3, -1, -2, -2): True,
                (0, 1, 0, 1, 0): False}
        for row, expected in told.items():
            self.assertIs(is_single_peaked(one_knob([list(row)]), 0), expected)

    def test_long_worths(self):
        most = 10 ** 1000 - 1
        table = one_knob([[most - 1, most, most, most - 1], [-most, 1 - most, -most, 1 - most]])
        self.check_same([peaks(table, 0), peaks(table, 1)], [[], [1, 3]])
        self.check_same([is_single_peaked(table, 0), is_single_peaked(table, 1)], [True, False])

    def test_no_settings(self):
        table = one_knob([[0, 1], [1, 0]])
        for call in (peaks, is_single_peaked):
            for n in (-1, -2, 2, 7):
                self.check_error(BadSetting, {"n": n}, call, table, n)


if __name__ == "__main__":
    unittest.main()
