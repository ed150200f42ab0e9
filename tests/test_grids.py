"""Points 0.3 to 0.6 for grids, and points 1.2 to 1.5."""

import unittest

from risingknobs.errors import BadNumber, BadOption, BadText
from risingknobs.grids import Grid
from tests.helpers import ProgramTest, all_tops, greater_by_hand, lesser_by_hand, options_by_hand

NO_OPTIONS = [(2, 0), (0, 3), (-1, 0), (0, -1), (0,), (0, 0, 0), ()]


class TestGrid(ProgramTest):

    def test_example_of_the_interface(self):
        grid = Grid(1, 2)
        self.check_same(
            [len(grid), list(grid)[:4], grid.lesser((1, 0), [0, 2]), grid.greater((1, 0), (0, 2)),
             grid.is_below((0, 2), (1, 1))],
            [6, [(0, 0), (0, 1), (0, 2), (1, 0)], (0, 0), (1, 2), False],
        )
        self.check_same(
            [grid.steps((0, 1)), grid.up((0, 2), 1), str(grid), Grid.read("1 2") == grid, (2, 0) in grid],
            [[(0, 2), (1, 1)], None, '1 2', True, False],
        )

    def test_tops_and_options_of_all_grids(self):
        for tops in all_tops():
            grid = Grid(*tops)
            self.check_same(grid.tops, tops)
            self.check_same(grid.options, tuple(options_by_hand(tops)))
            self.check_same(len(grid), len(grid.options))

    def test_sixteen_options_are_the_most(self):
        for tops in ((7, 1), (1, 7), (3, 3), (1, 1, 3), (3, 1, 1), (0, 7, 1)):
            self.check_same(len(Grid(*tops)), 16)
        self.check_same(len(Grid(9)), 10)
        self.check_same(len(Grid(0, 0, 0)), 1)

    def test_number_of_tops(self):
        self.check_error(BadNumber, {"n": 0}, Grid)
        self.check_error(BadNumber, {"n": 4}, Grid, 0, 0, 0, 0)
        self.check_error(BadNumber, {"n": 5}, Grid, 1, 1, 1, 1, 1)

    def test_tops_beyond_the_limits(self):
        self.check_error(BadNumber, {"n": 10}, Grid, 10)
        self.check_error(BadNumber, {"n": 16}, Grid, 16)
        self.check_error(BadNumber, {"n": -1}, Grid, -1)
        self.check_error(BadNumber, {"n": 12}, Grid, 0, 12)
        self.check_error(BadNumber, {"n": -2}, Grid, 1, -2, 11)

    def test_too_many_options(self):
        self.check_error(BadNumber, {"n": 18}, Grid, 8, 1)
        self.check_error(BadNumber, {"n": 18}, Grid, 2, 2, 1)
        self.check_error(BadNumber, {"n": 20}, Grid, 9, 1)
        self.check_error(BadNumber, {"n": 1000}, Grid, 9, 9, 9)

    def test_errors_of_a_grid_come_in_order(self):
        self.check_error(BadNumber, {"n": 4}, Grid, 10, -1, 9, 9)
        self.check_error(BadNumber, {"n": 11}, Grid, 9, 9, 11)
        self.check_error(BadNumber, {"n": -1}, Grid, 9, -1, 9)

    def test_equality(self):
        self.check_like(Grid(1, 2), Grid(1, 2))
        for other in (Grid(2, 1), Grid(1), Grid(1, 2, 0), Grid(0, 1, 2), (1, 2), [1, 2], "1 2", None, 6):
            self.check_unlike(Grid(1, 2), other)

    def test_contains(self):
        grid = Grid(1, 2)
        for option in options_by_hand((1, 2)):
            self.assertIs(option in grid, True)
            self.assertIs(list(option) in grid, True)
        for option in NO_OPTIONS:
            self.assertIs(option in grid, False)
            self.assertIs(option not in grid, True)

    def test_iteration(self):
        grid = Grid(1, 1)
        self.check_same(tuple(grid), grid.options)
        self.check_same([(one, other) for one in grid for other in grid],
                        [(one, other) for one in grid.options for other in grid.options])
        low, *_, high = grid
        self.check_same([low, high], [(0, 0), (1, 1)])

    def test_grid_stays_as_it_is_when_a_call_raises(self):
        grid = Grid(1, 2)
        for call in (lambda: grid.steps((9, 9)), lambda: grid.up((0, 0), 5), lambda: grid.lesser((0, 0), (2, 0))):
            with self.assertRaises(ValueError):
                call()
        self.check_same([grid.tops, grid.options], [(1, 2), tuple(options_by_hand((1, 2)))])


class TestLesserAndGreater(ProgramTest):

    def test_all_pairs(self):
        for tops in ((0,), (5,), (2, 3), (3, 1), (1, 1, 2)):
            grid = Grid(*tops)
            for first in grid.options:
                for second in grid.options:
                    lesser = lesser_by_hand(first, second)
                    self.check_same(grid.lesser(first, second), lesser)
                    self.check_same(grid.greater(first, second), greater_by_hand(first, second))
                    self.assertIs(grid.is_below(first, second), lesser == first)

    def test_each_option_is_below_itself(self):
        for option in Grid(2, 1, 1):
            self.assertIs(Grid(2, 1, 1).is_below(option, option), True)

    def test_options_as_lists(self):
        grid, first, second = Grid(1, 2), [1, 0], [0, 2]
        self.check_same([grid.lesser(first, second), grid.greater(first, second)], [(0, 0), (1, 2)])
        self.check_same([grid.is_below(first, second), grid.is_below([0, 0], second)], [False, True])
        self.check_same([first, second], [[1, 0], [0, 2]])

    def test_no_options(self):
        grid = Grid(1, 2)
        for call in (grid.lesser, grid.greater, grid.is_below):
            for option in NO_OPTIONS:
                self.check_error(BadOption, {"option": option}, call, option, (0, 0))
                self.check_error(BadOption, {"option": option}, call, (0, 0), list(option))
                self.check_error(BadOption, {"option": option}, call, list(option), (9, 9))


class TestSteps(ProgramTest):

    def test_steps_of_all_options(self):
        for tops in ((0,), (4,), (2, 3), (0, 3), (1, 1, 2), (0, 0, 0)):
            grid = Grid(*tops)
            for option in grid.options:
                above = [other for other in options_by_hand(tops)
                         if sum(other) == sum(option) + 1 and lesser_by_hand(option, other) == option]
                self.check_same(grid.steps(option), above)

    def test_up_for_all_options_and_knobs(self):
        for tops in ((4,), (2, 3), (1, 0, 2)):
            grid = Grid(*tops)
            for option in grid.options:
                for knob, top in enumerate(tops):
                    more = list(option)
                    more[knob] += 1
                    expected = tuple(more) if more[knob] <= top else None
                    self.check_same(grid.up(option, knob), expected)
                    self.check_same(grid.up(list(option), knob), expected)

    def test_steps_are_a_new_list_each_time(self):
        grid, option = Grid(1, 2), [0, 1]
        grid.steps(option).clear()
        self.check_same(grid.steps(option), [(0, 2), (1, 1)])
        self.check_same(option, [0, 1])

    def test_no_options(self):
        grid = Grid(1, 2)
        for option in NO_OPTIONS:
            self.check_error(BadOption, {"option": option}, grid.steps, option)
            self.check_error(BadOption, {"option": option}, grid.steps, list(option))
            self.check_error(BadOption, {"option": option}, grid.up, option, 0)

    def test_no_knobs(self):
        self.check_error(BadNumber, {"n": 2}, Grid(1, 2).up, (0, 0), 2)
        self.check_error(BadNumber, {"n": -1}, Grid(1, 2).up, (0, 0), -1)
        self.check_error(BadNumber, {"n": 1}, Grid(3).up, (0,), 1)
        self.check_error(BadNumber, {"n": 3}, Grid(1, 1, 1).up, [1, 1, 1], 3)

    def test_the_option_is_looked_at_ahead_of_the_knob(self):
        self.check_error(BadOption, {"option": (2, 0)}, Grid(1, 2).up, [2, 0], 7)
        self.check_error(BadOption, {"option": (0,)}, Grid(1, 2).up, (0,), -1)


class TestTextOfAGrid(ProgramTest):

    def test_there_and_back(self):
        for tops in all_tops():
            text = " ".join(str(top) for top in tops)
            self.check_same(str(Grid(*tops)), text)
            self.check_like(Grid.read(text), Grid(*tops))

    def test_words_that_are_no_digits(self):
        told = {"": 0, " ": 0, "10": 0, "-1": 0, "x": 0, "1 10": 1, "1  2": 1, "1 ": 1, " 1": 0, "1 2 x y": 2,
                "+1": 0, "01": 0, "1,2": 0, "1 2; 0 0": 1, "0 0 0 0 0 a": 5, "1 -0": 1, "~": 0, "12": 0, "x 12": 0}
        for text, at in told.items():
            self.check_error(BadText, {"at": at}, Grid.read, text)

    def test_what_a_grid_raises(self):
        self.check_error(BadNumber, {"n": 4}, Grid.read, "9 9 9 9")
        self.check_error(BadNumber, {"n": 100}, Grid.read, "9 9")
        self.check_error(BadNumber, {"n": 18}, Grid.read, "2 2 1")

    def test_the_form_is_looked_at_first(self):
        self.check_error(BadText, {"at": 4}, Grid.read, "9 9 9 9 10")
        self.check_error(BadText, {"at": 2}, Grid.read, "9 9 ")


if __name__ == "__main__":
    unittest.main()
