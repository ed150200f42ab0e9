"""Points 0.3 to 0.6 for best options, and points 4.1 to 4.4."""

import unittest

from risingknobs.best import best, bests, climbs, halved, low_best, top_best
from risingknobs.crossing import is_crossing
from risingknobs.errors import BadSetting, UnlikeGrids
from risingknobs.grids import Grid
from risingknobs.regions import Region, all_regions, box, whole
from risingknobs.tables import Table
from tests.helpers import ProgramTest, rise_by_hand
from tests.samples import best_by_hand, drawn, exhaustive, is_below_by_hand, larger


def halved_by_hand(grid, rows, options):
    """What halved returns; the settings that are still to be gone through are kept on a pile."""
    kept, looks, pile = {}, 0, [(0, len(rows), list(options))]
    while pile:
        first, end, among = pile.pop()
        if first == end:
            continue
        middle = (first + end - 1) // 2
        kept[middle] = max(best_by_hand(grid, rows[middle], among))
        looks += len(among)
        pile.append((first, middle, [option for option in among if is_below_by_hand(option, kept[middle])]))
        pile.append((middle + 1, end, [option for option in among if is_below_by_hand(kept[middle], option)]))
    return ([kept[setting] for setting in range(len(rows))], looks)


class TestBest(ProgramTest):

    def test_examples_of_the_interface(self):
        table = Table(Grid(1, 1), [[3, 5, 5, 5], [0, 4, 5, 9]])
        region = whole(table.grid)
        self.check_same(
            [best(table, region), top_best(table, region), low_best(table, region), bests(table, region)[1],
             climbs(table, region)],
            [[(0, 1), (1, 0), (1, 1)], (1, 1), None, [(1, 1)], True],
        )
        back = Table(Grid(1, 1), [[0, 4, 5, 9], [3, 5, 5, 5]])
        self.check_same(
            [halved(table, region), climbs(back, region), climbs(back, Region(back.grid, [(0, 0), (1, 1)]))],
            [([(1, 1), (1, 1)], 5), False, True],
        )

    def test_all_regions_and_settings(self):
        for grid, rows in larger():
            table = Table(grid, rows)
            for region in list(all_regions(grid))[::3]:
                told = [list(best_by_hand(grid, row, region.options)) for row in rows]
                self.check_same(bests(table, region), told)
                for setting in range(len(rows)):
                    self.check_same(best(table, region, setting=setting), told[setting])
                self.check_same(best(table, region), told[0])

    def test_a_grid_of_sixteen_options(self):
        grid = Grid(3, 3)
        table = Table(grid, [[-(at % 5) for at in range(16)]])
        self.check_same(best(table, whole(grid)), [(0, 0), (1, 1), (2, 2), (3, 3)])
        self.check_same(best(table, box(grid, (1, 2), (2, 3))), [(2, 2)])

    def test_one_option_alone(self):
        table = Table(Grid(0, 0), [[-5], [7]])
        region = whole(table.grid)
        self.check_same([bests(table, region), climbs(table, region)], [[[(0, 0)], [(0, 0)]], True])
        self.check_same([top_best(table, region, setting=1), low_best(table, region)], [(0, 0), (0, 0)])
        self.check_same(halved(table, region), ([(0, 0), (0, 0)], 2))

    def test_worths_that_are_all_alike(self):
        for grid in (Grid(3), Grid(2, 1), Grid(1, 1, 1)):
            table = Table(grid, [[-4] * len(grid)])
            self.check_same(best(table, whole(grid)), list(grid.options))

    def test_long_worths(self):
        most = 10 ** 1000 - 1
        table = Table(Grid(2), [[most - 1, most, most], [-most, 1 - most, -most]])
        self.check_same(bests(table, whole(table.grid)), [[(1,), (2,)], [(1,)]])

    def test_the_lists_are_new_ones(self):
        table = Table(Grid(1), [[1, 1], [0, 1]])
        region = whole(table.grid)
        best(table, region).clear()
        told = bests(table, region)
        told[0].clear()
        told.pop()
        halved(table, region)[0].clear()
        self.check_same([best(table, region), bests(table, region)], [[(0,), (1,)], [[(0,), (1,)], [(1,)]]])
        self.check_same([region.options, table.row(0), table.row(1)], [((0,), (1,)), [1, 1], [0, 1]])

    def test_the_setting_is_told_by_keyword(self):
        table = Table(Grid(1), [[1, 1], [0, 1]])
        for call in (best, top_best, low_best):
            with self.assertRaises(TypeError):
                call(table, whole(table.grid), 1)

    def test_no_settings(self):
        table = Table(Grid(1), [[1, 1], [0, 1]])
        for call in (best, top_best, low_best):
            for n in (-1, -2, 2, 5):
                self.check_error(BadSetting, {"n": n}, lambda: call(table, whole(table.grid), setting=n))

    def test_regions_of_another_grid(self):
        table = Table(Grid(1, 1), [[1, 1, 2, 3]])
        for grid in (Grid(3), Grid(1, 1, 0)):
            told = {"first": (1, 1), "second": grid.tops}
            for call in (best, bests, top_best, low_best, climbs, halved):
                self.check_error(UnlikeGrids, told, call, table, whole(grid))
            for call in (best, top_best, low_best):
                self.check_error(UnlikeGrids, told, lambda: call(table, whole(grid), setting=7))
        alike = Region(Grid(1, 1), [(1, 0)])
        self.check_same(best(table, alike), [(1, 0)])


class TestTopAndLow(ProgramTest):

    def test_all_regions_and_settings(self):
        missing = {"top": 0, "low": 0}
        for grid, rows in exhaustive() + drawn((1, 1, 1), 4) + drawn((2, 1), 4):
            table = Table(grid, rows)
            for region in all_regions(grid):
                for setting, row in enumerate(rows):
                    told = best_by_hand(grid, row, region.options)
                    tops = [one for one in told if all(is_below_by_hand(other, one) for other in told)]
                    lows = [one for one in told if all(is_below_by_hand(one, other) for other in told)]
                    self.check_same(top_best(table, region, setting=setting), tops[0] if tops else None)
                    self.check_same(low_best(table, region, setting=setting), lows[0] if lows else None)
                    missing["top"] += not tops
                    missing["low"] += not lows
        self.assertGreater(min(missing.values()), 10)

    def test_the_setting_is_0_if_it_is_left_out(self):
        table = Table(Grid(2), [[1, 1, 0], [0, 1, 1]])
        region = whole(table.grid)
        self.check_same([top_best(table, region), low_best(table, region)], [(1,), (0,)])

    def test_neither_a_greatest_nor_a_least_one(self):
        table = Table(Grid(1, 1), [[0, 1, 1, 0]])
        self.check_same([top_best(table, whole(table.grid)), low_best(table, whole(table.grid))], [None, None])

    def test_crossing_tables_have_both(self):
        count = 0
        for grid, rows in exhaustive() + larger():
            table = Table(grid, rows)
            if is_crossing(table):
                count += 1
                for region in list(all_regions(grid))[::5]:
                    for setting in range(len(rows)):
                        self.assertIsNotNone(top_best(table, region, setting=setting))
                        self.assertIsNotNone(low_best(table, region, setting=setting))
        self.assertGreater(count, 100)


class TestClimbs(ProgramTest):

    def test_all_regions(self):
        counts = {True: 0, False: 0}
        for grid, rows in exhaustive()[::2] + larger():
            table = Table(grid, rows)
            for region in list(all_regions(grid))[::3]:
                told = [best_by_hand(grid, row, region.options) for row in rows]
                expected = all(rise_by_hand(early, late) for at, early in enumerate(told) for late in told[at + 1:])
                self.assertIs(climbs(table, region), expected)
                counts[expected] += 1
        self.assertGreater(min(counts.values()), 100)

    def test_a_setting_is_not_compared_with_itself(self):
        table = Table(Grid(1, 1), [[0, 1, 1, 0]])
        self.assertIs(climbs(table, whole(table.grid)), True)

    def test_each_two_settings_count(self):
        rising, falling = [[1, 1, 0], [0, 1, 0], [0, 1, 1]], [[0, 1, 0], [0, 1, 1], [1, 0, 0]]
        self.assertIs(climbs(Table(Grid(2), rising), whole(Grid(2))), True)
        self.assertIs(climbs(Table(Grid(2), falling), whole(Grid(2))), False)
        self.assertIs(climbs(Table(Grid(2), rising[::-1]), whole(Grid(2))), False)
        # (0, 1) and (1, 0) are as good as one another at 1, and at 0 only one of them is best.
        table = Table(Grid(1, 1), [[0, 0, 1, 0], [0, 1, 1, 0]])
        self.assertIs(climbs(table, whole(table.grid)), False)

    def test_the_answer_depends_on_the_region(self):
        table = Table(Grid(2), [[0, 3, 5], [0, 3, 2]])
        told = [climbs(table, box(table.grid, (low,), (high,))) for low, high in ((0, 1), (0, 2), (1, 2), (2, 2))]
        self.check_same(told, [True, False, False, True])


class TestHalved(ProgramTest):

    def test_looks_worked_out_by_hand(self):
        one, two, three, last = [9, 0, 0, 0], [0, 9, 0, 0], [0, 0, 9, 0], [0, 0, 0, 9]
        cases = [
            ([two], [1], 4),
            # With two settings the earlier one comes first.
            ([one, last], [0, 3], 4 + 4),
            ([last, one], [3, 3], 4 + 1),
            ([one, two, three], [0, 1, 2], 4 + 2 + 3),
            # With four settings it is the second one.
            ([one, one, one, last], [0, 0, 0, 3], 4 + 1 + 4 + 4),
            ([one, two, three, last], [0, 1, 2, 3], 4 + 2 + 3 + 2),
            ([one, one, two, three, last], [0, 0, 1, 2, 3], 4 + 2 + 2 + 3 + 2),
            ([last, last, one, one, one], [0, 0, 0, 0, 0], 4 + 1 + 1 + 4 + 4),
        ]
        for rows, levels, looks in cases:
            table = Table(Grid(3), rows)
            self.check_same(halved(table, whole(table.grid)), ([(level,) for level in levels], looks))

    def test_the_last_one_of_those_worth_most_is_kept(self):
        table = Table(Grid(1, 1), [[0, 1, 1, 0], [2, 2, 2, 2], [0, 1, 1, 0]])
        self.check_same(halved(table, whole(table.grid)), ([(1, 0), (1, 1), (1, 1)], 4 + 4 + 1))
        self.check_same(halved(table.part([0]), whole(table.grid)), ([(1, 0)], 4))
        # (0, 1) is neither below the kept one nor the other way round.
        table = Table(Grid(1, 1), [[0, 9, 0, 1], [0, 0, 5, 0], [0, 9, 0, 1]])
        self.check_same(halved(table, whole(table.grid)), ([(1, 0), (1, 0), (1, 1)], 4 + 2 + 2))

    def test_only_the_options_of_the_region_are_looked_at(self):
        table = Table(Grid(1, 2), [[9, 1, 2, 9, 3, 9]] * 2)
        region = Region(table.grid, [(0, 1), (0, 2), (1, 2)])
        self.check_same(halved(table, region), ([(1, 2), (1, 2)], 3 + 1))
        self.check_same(halved(table, Region(table.grid, [(0, 2)])), ([(0, 2), (0, 2)], 2))

    def test_all_regions(self):
        for grid, rows in exhaustive()[::3] + larger():
            table = Table(grid, rows)
            for region in list(all_regions(grid))[::4] + [whole(grid)]:
                self.check_same(halved(table, region), halved_by_hand(grid, rows, region.options))

    def test_larger_grids(self):
        for grid, rows in drawn((3, 3), 10) + drawn((7, 1), 5) + drawn((1, 1, 3), 5):
            self.check_same(halved(Table(grid, rows), whole(grid)), halved_by_hand(grid, rows, grid.options))

    def test_crossing_tables(self):
        count = 0
        for grid, rows in exhaustive() + larger():
            table = Table(grid, rows)
            if is_crossing(table):
                count += 1
                for region in list(all_regions(grid))[::5] + [whole(grid)]:
                    tops = [top_best(table, region, setting=setting) for setting in range(len(rows))]
                    self.check_same(halved(table, region)[0], tops)
        self.assertGreater(count, 100)


if __name__ == "__main__":
    unittest.main()
