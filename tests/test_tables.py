"""Points 0.3 to 0.6 for tables and prices, and points 3.1 to 3.5."""

import unittest

from risingknobs.errors import BadNumber, BadOption, BadSetting, BadText, UnlikeGrids
from risingknobs.grids import Grid
from risingknobs.tables import Prices, Table
from tests.helpers import ProgramTest, all_tops

NO_OPTIONS = [(2, 0), (0, 2), (-1, 0), (0, -1), (0,), (0, 0, 0), ()]
ROWS = [[0, 5, 5, 6], [0, -4, 5, 9], [7, 7, 7, -7]]


def square(rows):
    return Table(Grid(1, 1), rows)


def rows_of(table):
    return [table.row(setting) for setting in range(table.settings)]


def counted(grid, settings):
    """Rows with as many different worths, some of them below 0."""
    return [[7 * at - 11 * setting for at in range(len(grid))] for setting in range(settings)]


class TestTable(ProgramTest):

    def test_examples_of_the_interface(self):
        table = Table(Grid(1, 1), [[0, 5, 5, 6], [0, 4, 5, 9]])
        self.check_same(
            [table((1, 0)), table([1, 1], 1), table.row(1), table.settings, str(table)],
            [5, 9, [0, 4, 5, 9], 2, '1 1; 0 5 5 6; 0 4 5 9'],
        )
        prices = Prices(table.grid, [[0, 5], [0, 0]])
        self.check_same(
            [prices((1, 1)), str(table.less(prices)), str((table + table).part([1])),
             Table.read("1 1; 0 5 5 6; 0 4 5 9") == table],
            [5, '1 1; 0 5 0 1; 0 4 0 4', '1 1; 0 8 10 18', True],
        )

    def test_worths_over_all_grids(self):
        for at, tops in enumerate(all_tops()):
            grid, settings = Grid(*tops), 1 + at % 5
            rows = counted(grid, settings)
            table = Table(grid, rows)
            self.assertIs(table.grid == grid, True)
            self.check_same([table.settings, rows_of(table)], [settings, rows])
            for setting in range(settings):
                for option, worth in zip(grid.options, rows[setting]):
                    self.check_same([table(option, setting), table(list(option), setting)], [worth, worth])

    def test_the_setting_is_0_if_it_is_left_out(self):
        table = square(ROWS)
        self.check_same([table(option) for option in table.grid], ROWS[0])
        self.check_same([table(list(option)) for option in table.grid], ROWS[0])

    def test_the_number_of_the_settings(self):
        for count in (1, 2, 3, 4, 5):
            self.check_same(square([[1, 2, 3, 4]] * count).settings, count)
        for count in (0, 6, 7):
            self.check_error(BadNumber, {"n": count}, Table, Grid(1, 1), [[1, 2, 3, 4]] * count)
        self.check_error(BadNumber, {"n": 0}, Table, Grid(1, 1), ())

    def test_the_lengths_of_the_rows(self):
        for row in ([], [1], [1, 2, 3], [1, 2, 3, 4, 5]):
            self.check_error(BadNumber, {"n": len(row)}, Table, Grid(1, 1), [row])
            self.check_error(BadNumber, {"n": len(row)}, Table, Grid(1, 1), [[1, 2, 3, 4], tuple(row)])
            self.check_error(BadNumber, {"n": len(row)}, Table, Grid(1, 1), ([1, 2, 3, 4], row, [1, 2]))
        self.check_error(BadNumber, {"n": 0}, Table, Grid(0), [[]])
        self.check_error(BadNumber, {"n": 2}, Table, Grid(0), [[1], [1, 2]])
        self.check_same(Table(Grid(0, 0, 0), [[8]])((0, 0, 0)), 8)

    def test_errors_of_a_table_come_in_order(self):
        self.check_error(BadNumber, {"n": 6}, Table, Grid(1, 1), [[1, 2]] * 6)
        self.check_error(BadNumber, {"n": 3}, Table, Grid(1, 1), [[1] * 4, [1] * 3, [1] * 5])
        self.check_error(BadNumber, {"n": 5}, Table, Grid(1, 1), [[1] * 5, []])

    def test_no_options(self):
        table = square(ROWS)
        for option in NO_OPTIONS:
            self.check_error(BadOption, {"option": option}, table, option)
            self.check_error(BadOption, {"option": option}, table, list(option), 1)

    def test_no_settings(self):
        for rows in (ROWS, ROWS[:1], [[1, 2, 3, 4]] * 5):
            table = square(rows)
            for n in (-1, -len(rows), len(rows), len(rows) + 3):
                self.check_error(BadSetting, {"n": n}, table, (0, 0), n)
                self.check_error(BadSetting, {"n": n}, table.row, n)

    def test_the_option_is_looked_at_ahead_of_the_setting(self):
        self.check_error(BadOption, {"option": (0, 2)}, square(ROWS), [0, 2], 3)
        self.check_error(BadOption, {"option": (0,)}, square(ROWS), (0,), -1)

    def test_lists_are_copied_and_not_modified(self):
        grid, rows = Grid(1, 1), [[0, 5, 5, 6], [0, 4, 5, 9]]
        table = Table(grid, rows)
        self.check_same(rows, [[0, 5, 5, 6], [0, 4, 5, 9]])
        rows[0][1] = 100
        rows.pop()
        self.check_same([str(table), table.settings], ["1 1; 0 5 5 6; 0 4 5 9", 2])
        table.row(0).clear()
        told = table.row(1)
        told[0] = 100
        self.check_same([str(table), table.row(0), told], ["1 1; 0 5 5 6; 0 4 5 9", [0, 5, 5, 6], [100, 4, 5, 9]])
        option = [1, 1]
        table(option, 1)
        self.check_same(option, [1, 1])

    def test_tuples_instead_of_lists(self):
        table = Table(Grid(1, 1), ((0, 5, 5, 6), [0, 4, 5, 9]))
        self.check_same(rows_of(table), [[0, 5, 5, 6], [0, 4, 5, 9]])
        self.check_like(table, square([[0, 5, 5, 6], (0, 4, 5, 9)]))

    def test_equality(self):
        table = square(ROWS)
        self.check_like(table, square(tuple(tuple(row) for row in ROWS)))
        self.check_like(table, table)
        others = [square(ROWS[:2]), square([*ROWS, ROWS[2]]), square([ROWS[1], ROWS[0], ROWS[2]]),
                  square([ROWS[0], ROWS[1], [7, 7, 7, 7]]), Table(Grid(3), ROWS), Table(Grid(1, 1, 0), ROWS),
                  Table(Grid(0, 1, 1), ROWS)]
        for other in (*others, ROWS, str(table), table.grid, Prices(Grid(1, 1), [[0, 5], [0, 4]]), None, 3):
            self.check_unlike(table, other)

    def test_a_table_stays_as_it_is_when_a_call_raises(self):
        table, prices = square(ROWS), Prices(Grid(3), [[0, 1, 2, 3]])
        for call in (lambda: table((9, 9)), lambda: table((0, 0), 5), lambda: table.row(3), lambda: table.part([0, 0]),
                     lambda: table + square(ROWS[:1]), lambda: table.less(prices)):
            with self.assertRaises(ValueError):
                call()
        self.check_same([rows_of(table), table.settings, prices.rows()], [ROWS, 3, [[0, 1, 2, 3]]])

    def test_long_worths(self):
        most = 10 ** 1000 - 1
        table = Table(Grid(1), [[most, -most], [most - 1, 1 - most]])
        self.check_same([table((0,)), table((1,), 1), table.row(0)], [most, 1 - most, [most, -most]])
        self.check_unlike(table, Table(Grid(1), [[most, -most], [most, 1 - most]]))


class TestSumsAndParts(ProgramTest):

    def test_sums(self):
        table = square(ROWS)
        more = square([[1, 2, 3, 4], [0, 0, 0, 0], [-7, -8, -9, 10 ** 1000]])
        self.check_same(rows_of(table + more), [[1, 7, 8, 10], [0, -4, 5, 9], [0, -1, -2, 10 ** 1000 - 7]])
        self.check_like(table + more, more + table)
        self.check_same(rows_of(table), ROWS)
        self.check_same(str(Table(Grid(0), [[-3]]) + Table(Grid(0), [[3]])), "0; 0")

    def test_errors_of_sums(self):
        table = square(ROWS)
        cases = [
            (UnlikeGrids, {"first": (1, 1), "second": (3,)}, Table(Grid(3), ROWS)),
            (UnlikeGrids, {"first": (1, 1), "second": (1, 1, 0)}, Table(Grid(1, 1, 0), ROWS[:1])),
            (BadNumber, {"n": 2}, square(ROWS[:2])),
            (BadNumber, {"n": 5}, square([ROWS[0]] * 5)),
        ]
        for kind, attributes, other in cases:
            self.check_error(kind, attributes, lambda: table + other)
        self.check_error(BadNumber, {"n": 3}, lambda: square(ROWS[:2]) + table)
        self.check_error(UnlikeGrids, {"first": (3,), "second": (1, 1)}, lambda: Table(Grid(3), ROWS[:1]) + table)

    def test_parts(self):
        rows = [[at, at + 1, -at, 0] for at in range(5)]
        table = square(rows)
        for settings in ([0], [4], [0, 1, 2, 3, 4], [1, 3], (0, 2, 4), [3, 4]):
            part = table.part(settings)
            self.check_same([part.settings, rows_of(part)], [len(settings), [rows[at] for at in settings]])
            self.assertIs(part.grid == Grid(1, 1), True)
        self.check_same(rows_of(table), rows)
        self.check_same(square(rows).part([1, 3])((0, 1), 1), 4)

    def test_a_list_of_settings_is_not_modified(self):
        settings = [0, 2]
        part = square(ROWS).part(settings)
        self.check_same(settings, [0, 2])
        settings.append(1)
        self.check_same(rows_of(part), [ROWS[0], ROWS[2]])

    def test_errors_of_parts(self):
        table = square(ROWS)
        self.check_error(BadNumber, {"n": 0}, table.part, [])
        self.check_error(BadNumber, {"n": 0}, table.part, ())
        for settings, n in (([-1], -1), ([3], 3), ([0, 0], 0), ([1, 0], 0), ([0, 2, 1], 1), ([0, 1, 1, 7], 1),
                            ([0, 7, 1], 7), ([2, 3, 0], 3), ([0, -1], -1), ((1, 2, 2), 2), ([-1, 0], -1),
                            ([0, -3], -3)):
            self.check_error(BadSetting, {"n": n}, table.part, settings)


class TestPrices(ProgramTest):

    def test_prices_over_all_grids(self):
        for tops in all_tops():
            grid = Grid(*tops)
            rows = [[5 * level * level - 13 * knob - 1 for level in range(top + 1)] for knob, top in enumerate(tops)]
            prices = Prices(grid, rows)
            self.assertIs(prices.grid == grid, True)
            self.check_same(prices.rows(), rows)
            for option in grid.options:
                price = sum(rows[knob][level] for knob, level in enumerate(option))
                self.check_same([prices(option), prices(list(option))], [price, price])

    def test_the_number_of_the_rows(self):
        for grid, rows in ((Grid(1, 1), []), (Grid(1, 1), [[0, 1]]), (Grid(1, 1), [[0, 1]] * 3), (Grid(3), ()),
                           (Grid(1), [[0, 1], [0]]), (Grid(1, 0, 1), [[0, 1], [0]])):
            self.check_error(BadNumber, {"n": len(rows)}, Prices, grid, rows)

    def test_the_lengths_of_the_rows(self):
        grid = Grid(1, 2)
        for rows, n in (([[0], [0, 1, 2]], 1), ([[], [0, 1, 2]], 0), ([[0, 1, 2], [0, 1, 2]], 3), ([[0, 1], [0, 1]], 2),
                        ([[0, 1], [0, 1, 2, 3]], 4), (([0, 1], ()), 0)):
            self.check_error(BadNumber, {"n": n}, Prices, grid, rows)
        self.check_error(BadNumber, {"n": 2}, Prices, Grid(0), [[0, 1]])

    def test_errors_of_prices_come_in_order(self):
        self.check_error(BadNumber, {"n": 3}, Prices, Grid(1, 2), [[0], [0], [0]])
        self.check_error(BadNumber, {"n": 1}, Prices, Grid(1, 2), [[0, 1, 2, 3]])
        self.check_error(BadNumber, {"n": 5}, Prices, Grid(1, 2), [[0] * 5, []])

    def test_no_options(self):
        prices = Prices(Grid(1, 1), [[0, 1], [2, 3]])
        for option in NO_OPTIONS:
            self.check_error(BadOption, {"option": option}, prices, option)
            self.check_error(BadOption, {"option": option}, prices, list(option))

    def test_lists_are_copied_and_not_modified(self):
        rows = [[0, 5], (1, 7)]
        prices = Prices(Grid(1, 1), rows)
        self.check_same(rows, [[0, 5], (1, 7)])
        rows[0][1] = 100
        rows.pop()
        self.check_same(prices.rows(), [[0, 5], [1, 7]])
        prices.rows()[0][0] = 100
        prices.rows().clear()
        told = prices.rows()
        told[1].append(3)
        self.check_same([prices.rows(), prices((0, 1)), told], [[[0, 5], [1, 7]], 7, [[0, 5], [1, 7, 3]]])
        option = [1, 0]
        prices(option)
        self.check_same(option, [1, 0])

    def test_equality(self):
        prices = Prices(Grid(1, 1), [[0, 5], [1, 7]])
        self.check_like(prices, Prices(Grid(1, 1), ((0, 5), (1, 7))))
        # Prices that are the same for all options need not be so for all levels.
        for other in (Prices(Grid(1, 1), [[1, 6], [0, 6]]), Prices(Grid(1, 1), [[0, 5], [1, 8]]),
                      Prices(Grid(1, 1, 0), [[0, 5], [1, 7], [0]]), Prices(Grid(0, 1, 1), [[0], [0, 5], [1, 7]]),
                      [[0, 5], [1, 7]], square([[1, 7, 6, 12]]), None, 0):
            self.check_unlike(prices, other)
        self.check_unlike(Prices(Grid(1), [[0, 1]]), Prices(Grid(2), [[0, 1, 1]]))

    def test_table_less_prices(self):
        for tops in all_tops():
            grid = Grid(*tops)
            rows = counted(grid, 3)
            costs = [[level * level - 3 * knob for level in range(top + 1)] for knob, top in enumerate(tops)]
            table, prices = Table(grid, rows), Prices(grid, costs)
            less = [[worth - sum(costs[knob][level] for knob, level in enumerate(option))
                     for option, worth in zip(grid.options, row)] for row in rows]
            self.check_same(rows_of(table.less(prices)), less)
            self.check_same([rows_of(table), prices.rows()], [rows, costs])

    def test_long_prices(self):
        most = 10 ** 1000 - 1
        prices = Prices(Grid(1, 1), [[0, most], [0, most]])
        self.check_same(prices((1, 1)), 2 * most)
        self.check_same(square([[0, 1, 2, -most]]).less(prices).row(0), [0, 1 - most, 2 - most, -3 * most])

    def test_prices_of_another_grid(self):
        told = {"first": (1, 1), "second": (3,)}
        self.check_error(UnlikeGrids, told, square(ROWS).less, Prices(Grid(3), [[0, 1, 2, 3]]))
        told = {"first": (3,), "second": (1, 1)}
        self.check_error(UnlikeGrids, told, Table(Grid(3), ROWS).less, Prices(Grid(1, 1), [[0, 1], [2, 3]]))


class TestTextOfATable(ProgramTest):

    def test_there_and_back(self):
        for at, tops in enumerate(all_tops()):
            grid = Grid(*tops)
            rows = counted(grid, 1 + at % 5)
            text = "; ".join([" ".join(str(n) for n in row) for row in [tops, *rows]])
            self.check_same(str(Table(grid, rows)), text)
            self.check_like(Table.read(text), Table(grid, rows))

    def test_words_of_many_forms(self):
        self.check_same(rows_of(Table.read("2; 0 -1 10; -100 9 90")), [[0, -1, 10], [-100, 9, 90]])

    def test_long_worths(self):
        for n in (10 ** 63, 10 ** 64 - 1, 10 ** 64, 10 ** 64 + 1, 10 ** 65, 10 ** 128 - 1, 10 ** 128, 7 * 10 ** 127 + 5,
                  10 ** 999, 10 ** 1000 - 1, 123456789 * 10 ** 500 + 987):
            table = Table(Grid(1), [[n, -n]])
            text = f"1; {n} -{n}"
            self.check_same(str(table), text)
            self.check_like(Table.read(text), table)

    def test_worths_longer_than_python_writes(self):
        table = Table(Grid(1), [[10 ** 600 + 1, -10 ** 600]])
        for _ in range(14000):
            table = table + table
        self.assertTrue(table((0,)) == (10 ** 600 + 1) * 2 ** 14000)
        text = str(table)
        self.check_same([len(word) > 4500 for word in text.split()], [False, True, True])
        self.check_like(Table.read(text), table)
        text = "1; " + "9" * 5000 + " -1" + "0" * 5000 + "7"
        self.check_same(str(Table.read(text)), text)

    def test_parts_that_are_not_of_the_form(self):
        told = {"1; -0 1": 1, "1; 0 -0": 1, "1; 00 1": 1, "1; 0 01": 1, "1; 0 -01": 1, "1; 0 +1": 1, "1; 0  1": 1,
                "1;  0 1": 1, "1; 0 1 ": 1, "1; ": 1, "1; ; 0 1": 1, "1; 0 1; ": 2, "1; 0 1; 0 1;": 2, "1; 0 1;0 1": 1,
                "1; 0 -": 1, "1; 0 --1": 1, "1; 0 1-": 1, "1; 0 1.0": 1, "1; 0 1_0": 1, "1; 0 x": 1, "1; 0 1; 0 1,": 2,
                "1; 0 1; 0 1; 1e3 0; a": 3, "1; 0 1; ; ": 2, "1; 0 0x1": 1, "1; 0 - 1": 1, "1; 0 1-1": 1,
                "1; 0 \u00b2": 1, "1; 0 1; 0 \u0663": 2}
        for text, at in told.items():
            self.check_error(BadText, {"at": at}, Table.read, text)

    def test_what_the_grid_raises(self):
        self.check_error(BadText, {"at": 0}, Table.read, "")
        self.check_error(BadText, {"at": 0}, Table.read, "x; 0 1")
        self.check_error(BadText, {"at": 2}, Table.read, "1 0 10; 0 1")
        self.check_error(BadText, {"at": 1}, Table.read, "1 ; 0 1")
        self.check_error(BadText, {"at": 1}, Table.read, "1 -1; 0 1")
        self.check_error(BadNumber, {"n": 4}, Table.read, "0 0 0 0; 0")
        self.check_error(BadNumber, {"n": 100}, Table.read, "9 9; 0")

    def test_what_the_table_raises(self):
        self.check_error(BadNumber, {"n": 0}, Table.read, "1")
        self.check_error(BadNumber, {"n": 6}, Table.read, "1" + "; 0 1" * 6)
        self.check_error(BadNumber, {"n": 3}, Table.read, "1; 0 1; 0 1 2; 0")
        self.check_error(BadNumber, {"n": 1}, Table.read, "1 1; 5")

    def test_errors_come_in_order(self):
        self.check_error(BadText, {"at": 1}, Table.read, "x; -0")
        self.check_error(BadText, {"at": 2}, Table.read, "9 9; 1; ")
        self.check_error(BadText, {"at": 7}, Table.read, "1" + "; 0 1" * 6 + "; 01")
        self.check_error(BadText, {"at": 1}, Table.read, "1 x")
        self.check_error(BadNumber, {"n": 100}, Table.read, "9 9; 1 2")
        self.check_error(BadNumber, {"n": 6}, Table.read, "1" + "; 0" * 6)


if __name__ == "__main__":
    unittest.main()
