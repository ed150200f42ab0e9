"""Points 0.3 to 0.6 for two tables, and points 12.1 to 12.3."""

import itertools
import random
import unittest

from risingknobs.crossing import is_crossing, knob_witness
from risingknobs.errors import BadNumber, BadSetting, NothingToShow, UnlikeGrids
from risingknobs.grids import Grid
from risingknobs.leading import chain, lead_fall, lead_witness, leads
from risingknobs.regions import Region, lies_under
from risingknobs.tables import Table
from tests.helpers import ProgramTest, greater_by_hand, lesser_by_hand, rise_by_hand
from tests.samples import all_rows, best_by_hand, drawn, exhaustive, larger, pairs_under, worths_by_hand


def lead_witness_by_hand(grid, row, behind):
    """The first (x, y) for which a row of worths does not lead the one behind it."""
    upper, lower = worths_by_hand(grid, row), worths_by_hand(grid, behind)
    told = []
    for x, y in itertools.product(grid.options, repeat=2):
        lesser, greater = lesser_by_hand(x, y), greater_by_hand(x, y)
        weak = lower[x] < lower[lesser] or upper[greater] >= upper[y]
        strict = lower[x] <= lower[lesser] or upper[greater] > upper[y]
        if not (weak and strict):
            told.append((x, y))
    return min(told, default=None)


def is_lead_fall_by_hand(grid, row, behind, low, high):
    if not rise_by_hand(low, high):
        return False
    return not rise_by_hand(best_by_hand(grid, behind, low), best_by_hand(grid, row, high))


def lead_falls_by_hand(grid, row, behind):
    """Whether there are two regions that show that a row of worths does not lead the one behind it."""
    lower, upper = {}, {}
    for low, high in pairs_under(grid):
        if low not in lower:
            lower[low] = best_by_hand(grid, behind, low)
        if high not in upper:
            upper[high] = best_by_hand(grid, row, high)
        if not rise_by_hand(lower[low], upper[high]):
            return True
    return False


def row_pairs():
    """Pairs of rows of worths over a grid: all of some small ones, and some others."""
    told = []
    for tops, most in (((1, 1), 1), ((2,), 2), ((0, 1), 2), ((0,), 1)):
        grid = Grid(*tops)
        rows = [rows[0] for rows in all_rows(grid, 1, range(most + 1))]
        told += [(grid, row, behind) for row, behind in itertools.product(rows, repeat=2)]
    draw = random.Random("leading")
    for tops, count in (((1, 1), 8), ((2, 1), 8), ((2, 2), 2), ((1, 1, 1), 3), ((1, 0, 2), 6), ((3,), 6)):
        rows = [row for _, rows in drawn(tops, count) for row in rows]
        for row in draw.sample(rows, 3 * count):
            told += [(Grid(*tops), row, row), (Grid(*tops), row, draw.choice(rows))]
    # What one table of several settings is worth later and earlier.
    for grid, rows in larger()[::3]:
        if grid.tops != (8,):
            told += [(grid, rows[-1], rows[0])]
    return told


PAIRS = row_pairs()


class TestLeading(ProgramTest):

    def test_examples_of_the_interface(self):
        grid = Grid(1, 1)
        old, new = Table(grid, [[0, 1, 1, 1]]), Table(grid, [[0, 1, 2, 9]])
        self.check_same(
            [leads(new, old), lead_witness(old, old), leads(old, new), chain(new), chain(old, new),
             chain(new, new)],
            [True, ((0, 1), (1, 0)), False, True, False, True],
        )

    def test_all_pairs(self):
        counts = {True: 0, False: 0}
        for grid, row, behind in PAIRS:
            first, second = Table(grid, [row]), Table(grid, [behind])
            expected = lead_witness_by_hand(grid, row, behind)
            self.check_same([lead_witness(first, second), leads(first, second)], [expected, expected is None])
            counts[expected is None] += 1
        self.assertGreater(min(counts.values()), 100)

    def test_the_settings(self):
        draw = random.Random("settings")
        for tops in ((1, 1), (2, 1), (3,), (1, 1, 1)):
            tables = drawn(tops, 10)
            for _ in range(20):
                (grid, rows), (_, others) = draw.choice(tables), draw.choice(tables)
                first, second = Table(grid, rows), Table(grid, others)
                told = {(at, behind): lead_witness_by_hand(grid, rows[at], others[behind])
                        for at in range(len(rows)) for behind in range(len(others))}
                for (at, behind), expected in told.items():
                    self.check_same(lead_witness(first, second, setting=at, behind=behind), expected)
                    self.assertIs(leads(first, second, setting=at, behind=behind), expected is None)
                self.check_same(lead_witness(first, second), told[0, 0])
                self.check_same(lead_witness(first, second, behind=len(others) - 1), told[0, len(others) - 1])
                self.check_same(lead_witness(first, second, setting=len(rows) - 1), told[len(rows) - 1, 0])

    def test_which_table_is_which(self):
        grid = Grid(1)
        low, high, alike = Table(grid, [[1, 0]]), Table(grid, [[0, 1]]), Table(grid, [[0, 0]])
        for first, second, expected in ((high, low, True), (low, high, False), (alike, low, True), (low, alike, False),
                                        (high, alike, True), (alike, high, False), (low, low, True),
                                        (high, high, True), (alike, alike, True)):
            self.assertIs(leads(first, second), expected)
        self.check_same([lead_witness(low, high), lead_witness(alike, high)], [((1,), (0,))] * 2)

    def test_long_worths(self):
        most, grid = 10 ** 1000 - 1, Grid(1, 1)
        low, high = Table(grid, [[most - 1, 0, most, 0]]), Table(grid, [[-most, most, 0, most]])
        self.check_same([lead_witness(high, low), lead_witness(low, low)], [((1, 0), (0, 1))] * 2)
        self.assertIs(leads(Table(grid, [[-most, most - 1, 0, most]]), low), True)

    def test_other_grids(self):
        one, two = Table(Grid(1, 1), [[0] * 4]), Table(Grid(3), [[0] * 4])
        three = Table(Grid(1, 1, 0), [[0] * 4])
        for call in (leads, lead_witness, lead_fall):
            self.check_error(UnlikeGrids, {"first": (1, 1), "second": (3,)}, call, one, two)
            self.check_error(UnlikeGrids, {"first": (3,), "second": (1, 1)}, call, two, one)
            self.check_error(UnlikeGrids, {"first": (1, 1), "second": (1, 1, 0)}, call, one, three)
            self.check_error(UnlikeGrids, {"first": (1, 1), "second": (3,)},
                             lambda: call(one, two, setting=9, behind=-1))

    def test_no_settings(self):
        first, second = Table(Grid(1), [[0, 1]] * 2), Table(Grid(1), [[1, 0]] * 4)
        for call in (leads, lead_witness, lead_fall):
            for n in (-1, -2, 2, 3):
                self.check_error(BadSetting, {"n": n}, lambda: call(first, second, setting=n))
                self.check_error(BadSetting, {"n": n}, lambda: call(first, second, setting=n, behind=-7))
            for n in (-1, -4, 4, 5):
                self.check_error(BadSetting, {"n": n}, lambda: call(first, second, behind=n))
                self.check_error(BadSetting, {"n": n}, lambda: call(first, second, setting=1, behind=n))
        self.assertIs(leads(first, second, behind=3), True)
        self.assertIs(leads(second, first, setting=3), False)

    def test_the_settings_are_told_by_keyword(self):
        table = Table(Grid(1), [[0, 1]])
        for call in (leads, lead_witness, lead_fall):
            with self.assertRaises(TypeError):
                call(table, table, 0)

    def test_leading_exactly_if_the_best_options_lie_under_those_of_the_leading_table(self):
        counts = {True: 0, False: 0}
        for grid, row, behind in PAIRS:
            expected = not lead_falls_by_hand(grid, row, behind)
            self.assertIs(leads(Table(grid, [row]), Table(grid, [behind])), expected)
            counts[expected] += 1
        self.assertGreater(min(counts.values()), 100)


class TestLeadFall(ProgramTest):

    def check_lead_fall(self, grid, row, behind, told):
        self.assertIs(type(told), tuple)
        self.check_same([type(part) for part in told], [Region, Region])
        low, high = told
        self.assertIs(low.grid == grid and high.grid == grid, True)
        self.assertIs(lies_under(low, high), True)
        self.assertTrue(is_lead_fall_by_hand(grid, row, behind, low.options, high.options))

    def test_all_pairs(self):
        shown = 0
        for grid, row, behind in PAIRS:
            first, second = Table(grid, [row]), Table(grid, [behind])
            if lead_witness_by_hand(grid, row, behind) is None:
                self.check_error(NothingToShow, {}, lead_fall, first, second)
            else:
                self.check_lead_fall(grid, row, behind, lead_fall(first, second))
                shown += 1
        self.assertGreater(shown, 100)

    def test_the_settings(self):
        shown = 0
        for grid, rows in drawn((2, 1), 15) + drawn((3, 3), 3):
            table = Table(grid, rows)
            for setting, behind in itertools.product(range(len(rows)), repeat=2):
                if lead_witness_by_hand(grid, rows[setting], rows[behind]) is None:
                    self.check_error(NothingToShow, {}, lambda: lead_fall(table, table, setting=setting, behind=behind))
                else:
                    told = lead_fall(table, table, setting=setting, behind=behind)
                    self.check_lead_fall(grid, rows[setting], rows[behind], told)
                    shown += 1
        self.assertGreater(shown, 50)

    def test_nothing_to_show(self):
        grid = Grid(1, 1)
        old, new = Table(grid, [[0, 1, 1, 1]]), Table(grid, [[0, 1, 2, 9]])
        self.check_error(NothingToShow, {}, lead_fall, new, old)
        self.check_error(NothingToShow, {}, lead_fall, new, new)
        self.check_error(NothingToShow, {}, lead_fall, Table(Grid(0), [[1]]), Table(Grid(0), [[2]]))
        self.check_lead_fall(grid, [0, 1, 1, 1], [0, 1, 1, 1], lead_fall(old, old))


class TestChain(ProgramTest):

    def test_a_table_crosses_in_its_knobs_exactly_if_it_leads_itself(self):
        counts = {True: 0, False: 0}
        for grid, rows in exhaustive()[::2] + larger():
            table, settings = Table(grid, rows), range(len(rows))
            in_knobs = all([leads(table, table, setting=at, behind=at) for at in settings])
            self.assertIs(knob_witness(table) is None, in_knobs)
            crossing = all([leads(table, table, setting=late, behind=early)
                            for early, late in itertools.combinations_with_replacement(settings, 2)])
            self.assertIs(is_crossing(table), crossing)
            counts[crossing] += 1
        self.assertGreater(min(counts.values()), 100)

    def test_leading_goes_on_from_table_to_table(self):
        found = 0
        draw = random.Random("three")
        for tops in ((1, 1), (2,), (2, 1), (1, 1, 1)):
            grid = Grid(*tops)
            tables = [Table(grid, [row]) for _, rows in drawn(tops, 10) for row in rows]
            tables = draw.sample(tables, 30)
            led = [[leads(first, second) for second in tables] for first in tables]
            for first, second, third in itertools.product(range(30), repeat=3):
                if led[first][second] and led[second][third]:
                    self.assertIs(led[first][third], True)
                    found += 1
        self.assertGreater(found, 200)

    def test_chains(self):
        counts = {True: 0, False: 0}
        draw = random.Random("chain")
        samples = [(grid, rows) for grid, rows in exhaustive() if len(rows) > 1] + larger()
        for grid, rows in draw.sample(samples, 400) + drawn((2, 2), 4):
            # The rows behind the first one of a table make no difference.
            tables = [Table(grid, [row, *draw.sample(rows, draw.randrange(min(len(rows), 4) + 1))]) for row in rows]
            expected = is_crossing(Table(grid, rows))
            links = all(lead_witness_by_hand(grid, row, row) is None for row in rows) and all(
                lead_witness_by_hand(grid, late, early) is None for early, late in zip(rows, rows[1:]))
            self.assertIs(expected, links)
            self.assertIs(chain(*tables), expected)
            counts[expected] += 1
        self.assertGreater(min(counts.values()), 50)

    def test_chains_by_hand(self):
        grid = Grid(1)
        low, high, alike = Table(grid, [[1, 0]]), Table(grid, [[0, 1]]), Table(grid, [[0, 0]])
        self.check_same([chain(low, high), chain(high, low), chain(low, alike, high), chain(alike, high),
                         chain(low, high, alike), chain(low)], [True, False, True, True, False, True])
        self.check_same([chain(*[low] * 4, *[high] * 4), chain(*[low] * 4, *[high] * 4, low)], [True, False])
        # The first table alone does not lead itself, or the last one.
        wild, calm = Table(Grid(1, 1), [[0, 1, 1, 1]]), Table(Grid(1, 1), [[0, 1, 2, 9]])
        self.check_same([leads(calm, wild), chain(wild, calm), chain(wild), chain(calm, wild)],
                        [True, False, False, False])
        self.check_same(chain(Table(Grid(0), [[1], [0]]), Table(Grid(0), [[5]])), True)

    def test_no_tables_and_other_grids(self):
        one, two, three = Table(Grid(1, 1), [[0, 1, 1, 1]]), Table(Grid(3), [[0] * 4]), Table(Grid(0, 3), [[0] * 4])
        self.check_error(BadNumber, {"n": 0}, chain)
        self.check_error(UnlikeGrids, {"first": (1, 1), "second": (3,)}, chain, one, two)
        self.check_error(UnlikeGrids, {"first": (1, 1), "second": (0, 3)}, chain, one, one, three, two)
        self.check_error(UnlikeGrids, {"first": (3,), "second": (1, 1)}, chain, two, two, one, three)


if __name__ == "__main__":
    unittest.main()
