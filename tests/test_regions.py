"""Points 0.3 to 0.6 for regions, and points 2.1 to 2.6."""

import itertools
import unittest

from risingknobs.errors import BadNumber, BadOption, BadRegion, BadText, UnlikeGrids
from risingknobs.grids import Grid
from risingknobs.regions import Region, all_regions, box, hull, lies_under, rise, whole
from tests.helpers import (ProgramTest, greater_by_hand, is_closed_by_hand, lesser_by_hand, rise_by_hand,
                           small_grids, subsets_by_hand)

SQUARE = ((0, 0), (0, 1), (1, 0), (1, 1))


def first_open_pair(options):
    """The pair that BadRegion tells for ascending options, or None."""
    for first, second in itertools.combinations(options, 2):
        if lesser_by_hand(first, second) not in options or greater_by_hand(first, second) not in options:
            return {"first": first, "second": second}
    return None


class TestRegion(ProgramTest):

    def test_examples_of_the_interface(self):
        grid = Grid(1, 1)
        self.check_same(
            [str(hull(grid, [(1, 0), (0, 1)])), [len(region) for region in all_regions(grid)],
             box(grid, (0, 0), (0, 1)).greatest()],
            ['1 1; 0 0; 0 1; 1 0; 1 1', [1, 1, 1, 1, 2, 2, 2, 2, 2, 3, 3, 4], (0, 1)],
        )
        low, high = Region(grid, [(0, 0), (1, 0)]), Region(grid, [[1, 1], [0, 1]])
        self.check_same(
            [lies_under(low, high), lies_under(high, low), rise(grid, [(1, 0)], [(0, 1)]), (0, 1) in high],
            [True, False, False, True],
        )

    def test_all_sets_of_options(self):
        for grid in small_grids():
            for options in subsets_by_hand(grid.options):
                pair = first_open_pair(options)
                backwards = [list(option) for option in reversed(options)]
                if pair is None:
                    self.check_same(Region(grid, backwards).options, options)
                    self.check_same(len(Region(grid, options)), len(options))
                else:
                    self.check_error(BadRegion, pair, Region, grid, options)
                    self.check_error(BadRegion, pair, Region, grid, backwards)

    def test_options_in_any_order_and_repeatedly(self):
        region = Region(Grid(1, 1), [(1, 1), [0, 0], (0, 1), (0, 0), [1, 1]])
        self.check_same(region.options, ((0, 0), (0, 1), (1, 1)))
        self.check_same(len(region), 3)
        self.check_like(region.grid, Grid(1, 1))
        self.check_same(Region(Grid(1, 1), ([1, 1], (1, 1))).options, ((1, 1),))

    def test_grids_of_sixteen_options(self):
        for tops in ((3, 3), (7, 1), (1, 1, 3)):
            grid = Grid(*tops)
            self.check_same(Region(grid, list(grid)).options, grid.options)
            most = grid.options[:-1]
            self.check_error(BadRegion, first_open_pair(most), Region, grid, most)

    def test_the_pair_of_bad_region_is_the_first_one_in_ascending_order(self):
        options = [[2, 0], (1, 2), (1, 1), (0, 2), [2, 0]]
        self.check_error(BadRegion, {"first": (0, 2), "second": (1, 1)}, Region, Grid(2, 2), options)
        options = [(0, 0), (0, 1), (1, 0), (2, 0), (2, 1)]
        self.check_error(BadRegion, {"first": (0, 1), "second": (1, 0)}, Region, Grid(2, 1), options)

    def test_the_lesser_one_alone_and_the_greater_one_alone_are_missing(self):
        pair = {"first": (0, 1), "second": (1, 0)}
        self.check_error(BadRegion, pair, Region, Grid(1, 1), [(0, 1), (1, 0), (1, 1)])
        self.check_error(BadRegion, pair, Region, Grid(1, 1), [(0, 0), (0, 1), (1, 0)])

    def test_errors_of_a_region_come_in_order(self):
        self.check_error(BadNumber, {"n": 0}, Region, Grid(1, 1), [])
        self.check_error(BadNumber, {"n": 0}, Region, Grid(1, 1), ())
        self.check_error(BadOption, {"option": (2, 0)}, Region, Grid(1, 1), [(0, 1), (1, 0), [2, 0], (0, 2)])
        self.check_error(BadOption, {"option": (0, 2)}, Region, Grid(1, 1), [(1, 0), (0, 1), (0, 2), (-1, 0)])
        self.check_error(BadOption, {"option": (0, -1)}, Region, Grid(1, 1), [[0, -1]])
        self.check_error(BadOption, {"option": (0,)}, Region, Grid(1, 1), ((0, 0), (0,)))

    def test_lists_are_copied_and_not_modified(self):
        options = [[1, 1], [0, 0], [1, 1]]
        region = Region(Grid(1, 1), options)
        self.check_same(options, [[1, 1], [0, 0], [1, 1]])
        options[0][0] = 0
        options.pop()
        self.check_same([region.options, str(region)], [((0, 0), (1, 1)), "1 1; 0 0; 1 1"])

    def test_equality(self):
        region = Region(Grid(1, 1), [(0, 0), (1, 1)])
        self.check_like(region, Region(Grid(1, 1), [[1, 1], (0, 0), (0, 0)]))
        for other in (Region(Grid(1, 2), [(0, 0), (1, 1)]), Region(Grid(1, 1), [(0, 0)]), whole(Grid(1, 1)),
                      Region(Grid(1, 1), [(0, 0), (0, 1)]), region.options, list(region), str(region), None):
            self.check_unlike(region, other)
        self.check_unlike(whole(Grid(1, 1)), Grid(1, 1))

    def test_contains(self):
        region = Region(Grid(1, 2), [(0, 0), (1, 2)])
        for option in ((0, 0), [0, 0], (1, 2), [1, 2]):
            self.assertIs(option in region, True)
        for option in ((0, 1), [0, 1], (1, 1), (0, 3), (-1, 0), (0,), ()):
            self.assertIs(option in region, False)

    def test_iteration(self):
        region = Region(Grid(1, 2), [(1, 2), (0, 0), (0, 1)])
        self.check_same(list(region), [(0, 0), (0, 1), (1, 2)])
        self.check_same([[one, other] for one in region for other in region],
                        [[one, other] for one in region.options for other in region.options])


class TestLeastGreatestAndBoth(ProgramTest):

    def test_least_and_greatest(self):
        for grid in (Grid(3), Grid(2, 2), Grid(1, 1, 1)):
            for region in all_regions(grid):
                self.assertIn(region.least(), region.options)
                self.assertIn(region.greatest(), region.options)
                for option in region:
                    self.assertTrue(grid.is_below(region.least(), option))
                    self.assertTrue(grid.is_below(option, region.greatest()))

    def test_least_and_greatest_of_one_option(self):
        region = Region(Grid(0, 4), [[0, 3]])
        self.check_same([region.least(), region.greatest()], [(0, 3), (0, 3)])

    def test_options_in_both(self):
        grid = Grid(2, 1)
        regions = list(all_regions(grid))
        for first in regions:
            for second in regions:
                both = [option for option in first if option in second.options]
                if both:
                    self.check_like(first & second, Region(grid, both))
                else:
                    self.check_error(BadNumber, {"n": 0}, lambda one, other: one & other, first, second)

    def test_equal_grids_need_not_be_the_same_object(self):
        first, second = Region(Grid(1, 1), [(0, 0), (0, 1)]), Region(Grid(1, 1), [(0, 1), (1, 1)])
        self.check_same(str(first & second), "1 1; 0 1")
        self.assertIs(lies_under(first, second), True)

    def test_grids_that_are_not_equal(self):
        first, second = Region(Grid(1, 1), [(0, 0)]), Region(Grid(1, 2), [(0, 0), (1, 1)])
        told = {"first": (1, 1), "second": (1, 2)}
        self.check_error(UnlikeGrids, told, lambda: first & second)
        self.check_error(UnlikeGrids, {"first": (1, 2), "second": (1, 1)}, lambda: second & first)
        apart = Region(Grid(1, 2), [(1, 2)])
        self.check_error(UnlikeGrids, told, lambda: first & apart)
        self.check_same([str(first), str(second)], ["1 1; 0 0", "1 2; 0 0; 1 1"])


class TestHullBoxAndWhole(ProgramTest):

    def test_hull_is_the_region_with_the_fewest_options(self):
        for grid in (Grid(4), Grid(2, 2), Grid(1, 1, 1)):
            regions = list(all_regions(grid))
            for options in subsets_by_hand(grid.options):
                fewest = next(region for region in regions if set(options) <= set(region.options))
                self.check_like(hull(grid, list(options)), fewest)

    def test_hull_that_is_found_in_several_rounds(self):
        grid = Grid(1, 1, 1)
        self.check_like(hull(grid, [(0, 0, 1), (0, 1, 0), [1, 0, 0]]), whole(grid))
        grid = Grid(3, 3)
        self.check_like(hull(grid, [(3, 0), (0, 3), (1, 1), (2, 2), (3, 0)]), whole(grid))

    def test_hull_of_options_told_twice(self):
        options = [[1, 0], (0, 1), [1, 0], [1, 0], (0, 1), [1, 0]]
        self.check_same(hull(Grid(1, 2), options).options, SQUARE)
        self.check_same(options, [[1, 0], (0, 1), [1, 0], [1, 0], (0, 1), [1, 0]])
        self.check_same(hull(Grid(1, 2), ([1, 2], (1, 2))).options, ((1, 2),))

    def test_errors_of_hull(self):
        self.check_error(BadNumber, {"n": 0}, hull, Grid(1, 1), [])
        self.check_error(BadNumber, {"n": 0}, hull, Grid(1, 1), ())
        self.check_error(BadOption, {"option": (0, 2)}, hull, Grid(1, 1), [(0, 0), [0, 2], (2, 0)])

    def test_box(self):
        for grid in small_grids():
            for low in grid.options:
                for high in grid.options:
                    between = [option for option in grid.options
                               if lesser_by_hand(low, option) == low and greater_by_hand(option, high) == high]
                    if lesser_by_hand(low, high) == low:
                        self.check_like(box(grid, low, high), Region(grid, between))
                        self.check_like(box(grid, list(low), list(high)), Region(grid, between))
                    else:
                        self.check_error(BadRegion, {"first": low, "second": high}, box, grid, low, list(high))

    def test_errors_of_box_come_in_order(self):
        grid = Grid(1, 1)
        self.check_error(BadOption, {"option": (2, 0)}, box, grid, [2, 0], (0, 3))
        self.check_error(BadOption, {"option": (0, -1)}, box, grid, (1, 1), [0, -1])
        self.check_error(BadOption, {"option": (0,)}, box, grid, (0,), (0, 0))
        self.check_error(BadRegion, {"first": (1, 0), "second": (0, 1)}, box, grid, [1, 0], [0, 1])

    def test_whole(self):
        for grid in (*small_grids(), Grid(9), Grid(3, 3), Grid(1, 1, 3)):
            self.check_like(whole(grid).grid, grid)
            self.check_same(whole(grid).options, grid.options)


class TestLiesUnder(ProgramTest):

    def test_all_pairs_of_regions(self):
        for grid in (Grid(3), Grid(2, 1), Grid(1, 1, 1)):
            regions = list(all_regions(grid))
            for first in regions:
                for second in regions:
                    expected = rise_by_hand(first.options, second.options)
                    self.assertIs(lies_under(first, second), expected)
                    self.assertIs(rise(grid, list(first), second.options), expected)

    def test_each_region_lies_under_itself(self):
        for region in all_regions(Grid(2, 2)):
            self.assertIs(lies_under(region, region), True)

    def test_lies_under_of_unlike_grids(self):
        told = {"first": (1, 1), "second": (3,)}
        self.check_error(UnlikeGrids, told, lies_under, whole(Grid(1, 1)), whole(Grid(3)))

    def test_rise_of_lists_that_are_no_regions(self):
        grid = Grid(1, 1)
        subsets = subsets_by_hand(grid.options)
        for first in subsets:
            for second in subsets:
                backwards = [list(option) for option in reversed(second)]
                self.assertIs(rise(grid, first, backwards + backwards), rise_by_hand(first, second))
        self.assertIs(rise(grid, [(0, 1), (1, 0)], [(0, 1), (1, 0)]), False)

    def test_lesser_ones_are_in_the_first_and_greater_ones_in_the_second(self):
        grid = Grid(1, 1)
        self.assertIs(rise(grid, [(0, 1), (0, 0)], [(1, 0)]), False)
        self.assertIs(rise(grid, [(0, 1)], [(1, 0), (1, 1)]), False)
        self.assertIs(rise(grid, [(0, 1), (0, 0)], [(1, 0), (1, 1)]), True)
        self.assertIs(rise(grid, [(0, 1), (1, 1)], [(1, 0), (0, 0)]), False)

    def test_empty_lists(self):
        grid = Grid(1, 1)
        for first, second in (([], []), ((), [(0, 0)]), ([[1, 1]], ()), ([(0, 1), (1, 0)], [])):
            self.assertIs(rise(grid, first, second), True)

    def test_errors_of_rise(self):
        grid = Grid(1, 1)
        self.check_error(BadOption, {"option": (0, 2)}, rise, grid, [(0, 0), [0, 2], (3, 3)], [(2, 0)])
        self.check_error(BadOption, {"option": (2, 0)}, rise, grid, [(1, 1)], ([0, 0], [2, 0], [2, 2]))
        self.check_error(BadOption, {"option": (2, 0)}, rise, grid, [], [(2, 0)])
        self.check_error(BadOption, {"option": (0,)}, rise, grid, [(0,)], [])

    def test_rise_does_not_modify_the_lists(self):
        first, second = [[1, 0], (0, 0)], [[1, 1], [1, 0], [1, 1]]
        self.assertIs(rise(Grid(1, 1), first, second), True)
        self.check_same([first, second], [[[1, 0], (0, 0)], [[1, 1], [1, 0], [1, 1]]])


class TestAllRegions(ProgramTest):

    def test_all_regions_in_order(self):
        for grid in small_grids():
            expected = [options for options in subsets_by_hand(grid.options) if is_closed_by_hand(options)]
            regions = list(all_regions(grid))
            self.check_same([region.options for region in regions], expected)
            for region in regions:
                self.assertIs(type(region), Region)
                self.check_like(region.grid, grid)

    def test_numbers_of_regions(self):
        counts = [len(list(all_regions(Grid(*tops)))) for tops in ((0,), (0, 0, 0), (2,), (8,), (1, 1))]
        self.check_same(counts, [1, 1, 7, 511, 12])

    def test_more_than_nine_options(self):
        for grid, count in ((Grid(9), 10), (Grid(4, 1), 10), (Grid(3, 3), 16)):
            regions = all_regions(grid)
            self.check_error(BadNumber, {"n": count}, next, regions)

    def test_it_is_a_generator(self):
        regions = all_regions(Grid(1))
        self.assertIs(iter(regions), regions)
        self.check_same([str(next(regions)), str(next(regions)), str(next(regions)), next(regions, None)],
                        ["1; 0", "1; 1", "1; 0; 1", None])


class TestTextOfARegion(ProgramTest):

    def test_there_and_back(self):
        for grid in small_grids():
            for region in all_regions(grid):
                text = "; ".join(" ".join(str(level) for level in levels) for levels in (grid.tops, *region.options))
                self.check_same(str(region), text)
                self.check_like(Region.read(text), region)

    def test_options_in_any_order_and_repeatedly(self):
        region = Region.read("1 2; 1 2; 0 0; 0 2; 1 2; 0 0")
        self.check_same(str(region), "1 2; 0 0; 0 2; 1 2")

    def test_parts_that_are_not_of_the_form(self):
        told = {"": 0, "; ": 0, "x": 0, "1 1;0 0": 0, "1 1; 0 0;": 1, "1 1; 0 0; ": 2, "1 1; ; 0 0": 1, "1  1; 0 0": 0,
                "1 1;  0 0": 1, "1 1 ; 0 0": 0, "1 1; 0 0 ; 0 1": 1, " 1 1; 0 0": 0, "1 1; 0 0; 0 10": 2,
                "10; 0": 0, "1 1; 0 -1": 1, "1; 0; 00": 2, "1 1; 0 0; a; b": 2, "1 1; 0,0": 1}
        for text, at in told.items():
            self.check_error(BadText, {"at": at}, Region.read, text)

    def test_what_the_grid_raises(self):
        self.check_error(BadNumber, {"n": 4}, Region.read, "0 0 0 0; 0 0 0 0")
        self.check_error(BadNumber, {"n": 100}, Region.read, "9 9; 0 0")

    def test_what_the_region_raises(self):
        self.check_error(BadNumber, {"n": 0}, Region.read, "1 1")
        self.check_error(BadOption, {"option": (0, 2)}, Region.read, "1 1; 0 1; 1 0; 0 2; 2 0")
        self.check_error(BadOption, {"option": (0,)}, Region.read, "1 1; 0 0; 0")
        self.check_error(BadOption, {"option": (1, 1, 1)}, Region.read, "1 1; 1 1 1")
        self.check_error(BadRegion, {"first": (0, 1), "second": (1, 0)}, Region.read, "1 1; 1 0; 0 1; 0 0")

    def test_errors_come_in_order(self):
        self.check_error(BadText, {"at": 2}, Region.read, "9 9; 0; x")
        self.check_error(BadText, {"at": 1}, Region.read, "9 9 9 9; ")
        self.check_error(BadNumber, {"n": 100}, Region.read, "9 9")
        self.check_error(BadNumber, {"n": 18}, Region.read, "8 1; 9 9 9")


if __name__ == "__main__":
    unittest.main()
