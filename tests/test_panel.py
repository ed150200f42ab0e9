"""Points 0.3 to 0.6 for panels, and points 14.1 to 14.5."""

import itertools
import random
import unittest

from risingknobs.best import bests
from risingknobs.crossing import is_crossing
from risingknobs.errors import BadNumber, BadOption, BadRegion, BadSetting, NothingToUndo
from risingknobs.grids import Grid
from risingknobs.panel import Panel
from risingknobs.regions import Region, all_regions, whole
from risingknobs.tables import Table
from tests.helpers import ProgramTest, is_closed_by_hand, rise_by_hand
from tests.samples import best_by_hand, drawn, exhaustive, falls_by_hand

ROWS = [[0, 1, 1, 3], [0, 2, 5, 4]]


def made_by_hand(grid, state, deed):
    """The rows and the options behind a deed."""
    rows, options = [list(row) for row in state[0]], state[1]
    word, *rest = deed
    if word == "change":
        option, setting, worth = rest
        rows[setting][grid.options.index(tuple(option))] = worth
    elif word == "charge":
        knob, level, price = rest
        rows = [[worth - price if option[knob] == level else worth for option, worth in zip(grid.options, row)]
                for row in rows]
    elif word == "allow":
        options = tuple(sorted(set(tuple(option) for option in rest[0])))
    else:
        first, second = rest
        rows[first], rows[second] = rows[second], rows[first]
    return (rows, options)


def bests_by_hand(grid, state):
    return [list(best_by_hand(grid, row, state[1])) for row in state[0]]


def draw_deed(grid, settings, regions, draw):
    word = draw.choice(("change", "change", "charge", "allow", "swap"))
    if word == "change":
        return (word, draw.choice(grid.options), draw.randrange(settings), draw.randrange(-3, 4))
    if word == "charge":
        knob = draw.randrange(len(grid.tops))
        return (word, knob, draw.randrange(grid.tops[knob] + 1), draw.randrange(-2, 3))
    if word == "allow":
        options = list(draw.choice(regions).options)
        draw.shuffle(options)
        return (word, options + options[:1])
    return (word, draw.randrange(settings), draw.randrange(settings))


def make(panel, deed):
    return getattr(panel, deed[0])(*deed[1:])


def square(rows):
    return Panel(Table(Grid(1, 1), rows))


class PanelTest(ProgramTest):

    def check_all(self, panel, grid, states):
        """All that a panel answers is so for the last one of some states; the others are behind the deeds ahead."""
        rows, options = states[-1]
        told = bests_by_hand(grid, states[-1])
        self.assertIs(panel.table() == Table(grid, rows), True)
        self.assertIs(panel.region() == Region(grid, options), True)
        self.check_same([panel.best(), len(panel)], [told, len(states) - 1])
        settings = list(itertools.combinations(range(len(rows)), 2))
        self.check_same(panel.falls(), [(early, late) for early, late in settings
                                        if not rise_by_hand(told[early], told[late])])
        self.check_same(panel.held(), [
            knob for knob in range(len(grid.tops))
            if all(one[knob] <= other[knob] for early, late in settings
                   for one in told[early] for other in told[late])])
        for steps in range(len(states)):
            before = bests_by_hand(grid, states[-1 - steps])
            self.check_same(panel.changed(steps),
                            [setting for setting in range(len(rows)) if before[setting] != told[setting]])


class TestPanel(PanelTest):

    def test_examples_of_the_interface(self):
        panel = Panel(Table(Grid(1, 1), [[0, 1, 1, 3], [0, 2, 5, 4]]))
        self.check_same(
            [panel.best(), panel.falls(), panel.held(),
             panel.supposed([("charge", 0, 1, 3), ("allow", [(0, 0), (0, 1)])])],
            [[[(1, 1)], [(1, 0)]], [(0, 1)], [0], [[(0, 1)], [(0, 1)]]],
        )
        self.assertIsNone(panel.charge(0, 1, 3))
        self.check_same(
            [panel.best(), panel.falls(), panel.changed(1), len(panel), panel.table().row(1)],
            [[[(0, 1)], [(0, 1), (1, 0)]], [(0, 1)], [0, 1], 1, [0, 2, 2, 1]],
        )

    def test_without_deeds(self):
        for grid, rows in exhaustive()[::5] + drawn((2, 1), 5) + drawn((3, 3), 2) + drawn((1, 1, 3), 2):
            self.check_all(Panel(Table(grid, rows)), grid, [(rows, grid.options)])

    def test_many_deeds_and_undos(self):
        draw = random.Random("panel")
        for tops, count in (((1, 1), 6), ((2, 1), 4), ((2, 2), 2), ((1, 1, 1), 3), ((3,), 4), ((0, 0), 1),
                            ((1, 0, 2), 3)):
            regions = list(all_regions(Grid(*tops)))
            for grid, rows in drawn(tops, count):
                panel, states = Panel(Table(grid, rows)), [(rows, grid.options)]
                for _ in range(15):
                    if len(states) > 1 and draw.random() < 0.25:
                        self.assertIsNone(panel.undo())
                        states.pop()
                    else:
                        deed = draw_deed(grid, len(rows), regions, draw)
                        self.assertIsNone(make(panel, deed))
                        states.append(made_by_hand(grid, states[-1], deed))
                    self.check_all(panel, grid, states)
                while len(states) > 1:
                    panel.undo()
                    states.pop()
                self.check_all(panel, grid, states)
                self.check_error(NothingToUndo, {}, panel.undo)

    def test_change(self):
        panel = square(ROWS)
        panel.change([0, 1], 1, 9)
        self.check_same([str(panel.table()), panel.best()], ["1 1; 0 1 1 3; 0 9 5 4", [[(1, 1)], [(0, 1)]]])
        panel.change((0, 0), 0, -7)
        self.check_same([str(panel.table()), len(panel)], ["1 1; -7 1 1 3; 0 9 5 4", 2])

    def test_charge(self):
        panel = Panel(Table(Grid(1, 2), [[0, 1, 2, 3, 4, 5], [9] * 6]))
        panel.charge(1, 2, 10)
        self.check_same(str(panel.table()), "1 2; 0 1 -8 3 4 -5; 9 9 -1 9 9 -1")
        panel.charge(0, 0, -100)
        self.check_same(str(panel.table()), "1 2; 100 101 92 3 4 -5; 109 109 99 9 9 -1")
        panel.allow([(1, 0), (1, 1)])
        panel.charge(0, 0, 100)
        panel.charge(1, 2, -10)
        self.check_same([str(panel.table()), panel.region().options],
                        ["1 2; 0 1 2 3 4 5; 9 9 9 9 9 9", ((1, 0), (1, 1))])
        panel = Panel(Table(Grid(0), [[5], [6]]))
        panel.charge(0, 0, 1)
        self.check_same(str(panel.table()), "0; 4; 5")

    def test_allow(self):
        panel = square(ROWS)
        panel.allow([[1, 0], (0, 0), (1, 0)])
        self.check_same([panel.region().options, panel.best()], [((0, 0), (1, 0)), [[(1, 0)], [(1, 0)]]])
        panel.allow(((0, 1),))
        self.check_same([panel.region().options, panel.best()], [((0, 1),), [[(0, 1)], [(0, 1)]]])
        panel.allow(list(panel.table().grid))
        self.check_same([panel.region().options, len(panel)], [((0, 0), (0, 1), (1, 0), (1, 1)), 3])

    def test_swap(self):
        panel = square([*ROWS, [7, 7, 7, 7]])
        panel.swap(2, 0)
        self.check_same(str(panel.table()), "1 1; 7 7 7 7; 0 2 5 4; 0 1 1 3")
        panel.swap(1, 1)
        self.check_same([str(panel.table()), len(panel)], ["1 1; 7 7 7 7; 0 2 5 4; 0 1 1 3", 2])
        panel.swap(0, 2)
        self.check_same(str(panel.table()), "1 1; 0 1 1 3; 0 2 5 4; 7 7 7 7")

    def test_deeds_that_change_nothing(self):
        panel = square(ROWS)
        for count, deed in enumerate((("change", (1, 1), 0, 3), ("charge", 1, 0, 0), ("allow", Grid(1, 1).options),
                                      ("swap", 1, 1)), start=1):
            make(panel, deed)
            self.check_all(panel, Grid(1, 1), [(ROWS, Grid(1, 1).options)] * (count + 1))
        for count in (4, 3, 2, 1):
            self.check_same(len(panel), count)
            panel.undo()
        self.check_all(panel, Grid(1, 1), [(ROWS, Grid(1, 1).options)])

    def test_long_numbers(self):
        most = 10 ** 1000 - 1
        panel = Panel(Table(Grid(1), [[-most, most], [0, 0]]))
        panel.charge(0, 0, most)
        panel.change((1,), 1, -most)
        self.assertIs(panel.table() == Table(Grid(1), [[-2 * most, most], [-most, -most]]), True)
        self.check_same([panel.best(), panel.held(), panel.falls()], [[[(1,)], [(0,), (1,)]], [], [(0, 1)]])
        panel.change((1,), 1, 1 - most)
        panel.charge(0, 0, -most ** 2)
        self.check_same([panel.best(), panel.changed(1), panel.changed(2)], [[[(0,)], [(0,)]], [0, 1], [0, 1]])

    def test_what_was_told_stays_as_it_was(self):
        panel = square(ROWS)
        table, region, best = panel.table(), panel.region(), panel.best()
        panel.change((0, 0), 0, 100)
        panel.allow([(0, 0)])
        panel.swap(0, 1)
        self.check_same([str(table), str(region), best],
                        ["1 1; 0 1 1 3; 0 2 5 4", "1 1; 0 0; 0 1; 1 0; 1 1", [[(1, 1)], [(1, 0)]]])
        later = panel.table()
        panel.undo()
        self.check_same([str(later), str(panel.table())], ["1 1; 0 2 5 4; 100 1 1 3", "1 1; 100 1 1 3; 0 2 5 4"])

    def test_the_table_that_was_given_stays_as_it_was(self):
        table = Table(Grid(1, 1), ROWS)
        first, second = Panel(table), Panel(table)
        first.charge(0, 1, 3)
        first.allow([(1, 1)])
        self.check_same([str(table), str(second.table()), len(second), second.best()],
                        ["1 1; 0 1 1 3; 0 2 5 4"] * 2 + [0, [[(1, 1)], [(1, 0)]]])
        third = Panel(first.table())
        third.change((0, 0), 0, 5)
        self.check_same([str(first.table()), third.region().options == table.grid.options],
                        ["1 1; 0 1 -2 0; 0 2 2 1", True])

    def test_the_lists_are_new_ones_and_those_that_are_given_stay(self):
        panel = square(ROWS)
        panel.charge(0, 1, 3)
        for call in (panel.best, panel.falls, panel.held, lambda: panel.changed(1), lambda: panel.supposed([])):
            expected = repr(call())
            told = call()
            if told and isinstance(told[0], list):
                told[0].clear()
            told.clear()
            self.assertEqual(repr(call()), expected)
        options = [[1, 1], [0, 0]]
        panel.allow(options)
        deeds = [["allow", [[0, 1]]], ("change", [1, 1], 0, 5)]
        panel.supposed(deeds)
        self.check_same([options, deeds], [[[1, 1], [0, 0]], [["allow", [[0, 1]]], ("change", [1, 1], 0, 5)]])
        options[0][0] = 0
        options.pop()
        self.check_same(panel.region().options, ((0, 0), (1, 1)))


class TestAnswers(PanelTest):

    def test_held_by_hand(self):
        panel = Panel(Table(Grid(1, 1), [[0, 1, 1, 0], [0, 1, 1, 0]]))
        self.check_same([panel.held(), panel.falls()], [[], [(0, 1)]])
        panel.change((0, 1), 0, 0)
        self.check_same([panel.best(), panel.held()], [[[(1, 0)], [(0, 1), (1, 0)]], [1]])
        panel.swap(0, 1)
        self.check_same([panel.best(), panel.held()], [[[(0, 1), (1, 0)], [(1, 0)]], [0]])
        panel = Panel(Table(Grid(1), [[0, 1], [0, 0], [1, 0]]))
        self.check_same([panel.held(), panel.falls()], [[], [(0, 1), (0, 2), (1, 2)]])
        panel = Panel(Table(Grid(2), [[1, 0, 0], [0, 0, 1], [0, 1, 0], [0, 0, 1]]))
        self.check_same([panel.held(), panel.falls()], [[], [(1, 2)]])

    def test_held_with_one_setting_and_with_knobs_with_the_top_0(self):
        self.check_same(Panel(Table(Grid(1, 1), [[1, 1, 1, 1]])).held(), [0, 1])
        self.check_same(Panel(Table(Grid(1, 0, 1), [[0, 0, 0, 1], [1, 0, 0, 0]])).held(), [1])
        self.check_same(Panel(Table(Grid(1, 1), [[1, 1, 0, 0], [1, 1, 0, 0]])).held(), [0])

    def test_no_falls_in_any_region_if_the_table_is_crossing(self):
        counts = {True: 0, False: 0}
        for grid, rows in exhaustive()[::7] + drawn((2, 1), 10) + drawn((1, 1, 1), 6):
            panel, falls = Panel(Table(grid, rows)), False
            for region in list(all_regions(grid))[::3]:
                panel.allow(list(region.options))
                falls = falls or panel.falls() != []
            crossing = not falls_by_hand(grid, rows)
            self.assertIs(is_crossing(panel.table()), crossing)
            self.assertFalse(crossing and falls)
            counts[falls] += 1
        self.assertGreater(min(counts.values()), 30)

    def test_supposed_deeds(self):
        draw = random.Random("supposed")
        for tops, count in (((1, 1), 5), ((2, 1), 5), ((1, 1, 1), 3), ((3,), 3)):
            regions = list(all_regions(Grid(*tops)))
            for grid, rows in drawn(tops, count):
                panel, states = Panel(Table(grid, rows)), [(rows, grid.options)]
                for _ in range(4):
                    deed = draw_deed(grid, len(rows), regions, draw)
                    make(panel, deed)
                    states.append(made_by_hand(grid, states[-1], deed))
                    deeds = [draw_deed(grid, len(rows), regions, draw) for _ in range(draw.randrange(5))]
                    state = states[-1]
                    for supposed in deeds:
                        state = made_by_hand(grid, state, supposed)
                    for given in (deeds, tuple(deeds), [list(supposed) for supposed in deeds]):
                        self.check_same(panel.supposed(given), bests_by_hand(grid, state))
                    self.check_all(panel, grid, states)

    def test_no_deeds_supposed(self):
        panel = square(ROWS)
        self.check_same(panel.supposed([]), panel.best())
        panel.allow([(0, 0), (1, 0)])
        panel.charge(0, 1, 2)
        self.check_same([panel.supposed([]), panel.supposed(()), len(panel)],
                        [[[(0, 0)], [(1, 0)]], [[(0, 0)], [(1, 0)]], 2])

    def test_supposed_deeds_that_cannot_be_made(self):
        panel = square(ROWS)
        panel.charge(0, 1, 3)
        right = [("change", (0, 0), 0, 50), ("swap", 0, 1), ("allow", [(0, 0)]), ("charge", 0, 0, -9)]
        wrong = [
            (("change", (2, 0), 0, 1), BadOption, {"option": (2, 0)}),
            (["change", [0, 2], 7, 1], BadOption, {"option": (0, 2)}),
            (("change", (1, 0), 2, 1), BadSetting, {"n": 2}),
            (("charge", 2, 0, 1), BadNumber, {"n": 2}),
            (("charge", 1, -1, 1), BadNumber, {"n": -1}),
            (("allow", []), BadNumber, {"n": 0}),
            (("allow", [(0, 0), (2, 2)]), BadOption, {"option": (2, 2)}),
            (("allow", [(1, 0), (0, 1)]), BadRegion, {"first": (0, 1), "second": (1, 0)}),
            (("swap", 0, 2), BadSetting, {"n": 2}),
            (("swap", -1, 2), BadSetting, {"n": -1}),
        ]
        for (deed, kind, told), (behind, _, _) in zip(wrong, wrong[1:] + wrong[:1]):
            for deeds in ([deed], [*right, deed], [deed, *right], [*right[:2], deed, behind, *right]):
                self.check_error(kind, told, panel.supposed, deeds)
            self.check_all(panel, Grid(1, 1), [(ROWS, Grid(1, 1).options),
                                               ([[0, 1, -2, 0], [0, 2, 2, 1]], Grid(1, 1).options)])

    def test_changed(self):
        panel = square(ROWS)
        self.check_same(panel.changed(0), [])
        panel.change((0, 0), 0, 9)
        panel.change((0, 0), 1, 9)
        panel.change((0, 0), 0, 0)
        self.check_same([panel.changed(steps) for steps in range(4)], [[], [0], [0, 1], [1]])
        panel.undo()
        self.check_same([panel.changed(steps) for steps in range(3)], [[], [1], [0, 1]])
        panel.allow([(0, 0)])
        self.check_same([panel.changed(steps) for steps in range(4)], [[], [], [1], [0, 1]])

    def test_changed_by_the_region_of_then(self):
        panel = square(ROWS)
        panel.allow([(0, 0), (0, 1)])
        panel.change((1, 1), 0, 99)
        self.check_same([panel.changed(1), panel.changed(2)], [[], [0, 1]])
        panel.undo()
        panel.undo()
        panel.allow([(1, 1), (1, 0)])
        self.check_same([panel.changed(1), panel.best()], [[], [[(1, 1)], [(1, 0)]]])


class TestErrors(PanelTest):

    def check_refused(self, deeds):
        """The deeds raise the errors, and leave a panel as it is."""
        rows = [[0, 1, 2, 3, 4, 5], [9, 8, 7, 6, 5, 4]]
        for count in (0, 2):
            panel, states = Panel(Table(Grid(1, 2), rows)), [(rows, Grid(1, 2).options)]
            for deed in (("allow", [(0, 1), (1, 1)]), ("charge", 0, 1, 7))[:count]:
                make(panel, deed)
                states.append(made_by_hand(Grid(1, 2), states[-1], deed))
            for deed, kind, told in deeds:
                self.check_error(kind, told, make, panel, deed)
                self.check_error(kind, told, panel.supposed, [deed])
                self.check_all(panel, Grid(1, 2), states)

    def test_changes_that_cannot_be_made(self):
        deeds = [(("change", option, setting, 5), BadOption, {"option": tuple(option)})
                 for option in ((2, 0), (0, 3), (-1, 0), (0,), (0, 0, 0), (), [1, -1]) for setting in (0, 1, 2, -1)]
        deeds += [(("change", (1, 2), n, 5), BadSetting, {"n": n}) for n in (-1, -2, 2, 3)]
        self.check_refused(deeds)

    def test_charges_that_cannot_be_made(self):
        deeds = [(("charge", n, level, 5), BadNumber, {"n": n}) for n in (-1, -2, 2, 3) for level in (0, 7, -1)]
        deeds += [(("charge", 0, n, 5), BadNumber, {"n": n}) for n in (-1, -2, 2, 3)]
        deeds += [(("charge", 1, n, 5), BadNumber, {"n": n}) for n in (-1, -3, 3, 4)]
        self.check_refused(deeds)
        panel = Panel(Table(Grid(1, 2), [[0] * 6]))
        panel.charge(1, 2, 1)
        panel.charge(0, 1, 1)
        self.check_same(str(panel.table()), "1 2; 0 0 -1 -1 -1 -2")

    def test_regions_that_cannot_be_made(self):
        self.check_refused([
            (("allow", []), BadNumber, {"n": 0}),
            (("allow", ()), BadNumber, {"n": 0}),
            (("allow", [(0, 0), (2, 0), (9, 9)]), BadOption, {"option": (2, 0)}),
            (("allow", [(1, 0), (0, 1), (0, 3)]), BadOption, {"option": (0, 3)}),
            (("allow", [(1, 0), (0, 1)]), BadRegion, {"first": (0, 1), "second": (1, 0)}),
            (("allow", [[1, 1], [0, 2], [0, 1], [1, 0]]), BadRegion, {"first": (0, 1), "second": (1, 0)}),
        ])

    def test_regions_are_refused_exactly_if_they_are_none(self):
        panel, count = Panel(Table(Grid(2, 1), [[0] * 6])), 0
        for size in range(1, 7):
            for options in itertools.combinations(Grid(2, 1).options, size):
                if is_closed_by_hand(options):
                    panel.allow(options)
                    count += 1
                    self.check_same([panel.region().options, len(panel)], [options, count])
                else:
                    with self.assertRaises(BadRegion):
                        panel.allow(options)

    def test_swaps_that_cannot_be_made(self):
        deeds = [(("swap", n, other), BadSetting, {"n": n}) for n in (-1, -2, 2, 3) for other in (0, 1, 5, -6)]
        deeds += [(("swap", first, n), BadSetting, {"n": n}) for n in (-1, -2, 2, 3) for first in (0, 1)]
        self.check_refused(deeds)

    def test_nothing_to_undo(self):
        panel = square(ROWS)
        self.check_error(NothingToUndo, {}, panel.undo)
        panel.swap(0, 1)
        panel.undo()
        self.check_error(NothingToUndo, {}, panel.undo)
        self.check_all(panel, Grid(1, 1), [(ROWS, Grid(1, 1).options)])
        # A refused deed is none.
        self.check_error(BadSetting, {"n": 2}, panel.swap, 0, 2)
        self.check_error(NothingToUndo, {}, panel.undo)

    def test_numbers_of_deeds_that_were_not_made(self):
        panel = square(ROWS)
        for n in (-1, 1, 2):
            self.check_error(BadNumber, {"n": n}, panel.changed, n)
        panel.swap(0, 1)
        panel.swap(0, 1)
        self.check_same([panel.changed(0), panel.changed(1), panel.changed(2)], [[], [0, 1], []])
        for n in (-1, -2, 3, 4):
            self.check_error(BadNumber, {"n": n}, panel.changed, n)
        panel.undo()
        self.check_error(BadNumber, {"n": 2}, panel.changed, 2)

    def test_bests_and_best_agree(self):
        panel = square(ROWS)
        panel.allow([(0, 0), (1, 0)])
        self.check_same(panel.best(), bests(panel.table(), panel.region()))
        self.assertIs(panel.region() == whole(Grid(1, 1)), False)


if __name__ == "__main__":
    unittest.main()
