"""What the document says over the whole program: points 0.2 and 0.4, and that the ways to an answer agree."""

import itertools
import random
import unittest

from risingknobs.best import best, bests, climbs, halved, low_best, top_best
from risingknobs.crossing import fall, is_crossing, is_fall, knob_witness, setting_witness
from risingknobs.errors import NothingToShow, RiseError
from risingknobs.games import Game
from risingknobs.grids import Grid
from risingknobs.hidden import Hidden
from risingknobs.leading import chain, lead_fall, lead_witness, leads
from risingknobs.lifting import is_lifting, lift_witness, price_fall, step_witness
from risingknobs.panel import Panel
from risingknobs.payoffs import chosen, crosses_in_state, expected, rises_behind
from risingknobs.regions import Region, all_regions, box, hull, lies_under, rise, whole
from risingknobs.rivals import Player
from risingknobs.signals import Signals
from risingknobs.stretches import crosses_in_stretches, falling_stretch, peaks, stretch_witness, stretches
from risingknobs.tables import Prices, Table
from tests.helpers import ProgramTest
from tests.samples import drawn, exhaustive, falls_by_hand, is_below_by_hand, larger


def shows(call):
    """Whether there is something to show."""
    try:
        call()
    except NothingToShow:
        return True
    return False


def two_of(grid):
    """The regions of two options, one of which is below the other one."""
    return [Region(grid, [low, high]) for low in grid for high in grid if low != high and is_below_by_hand(low, high)]


def outcome(call):
    """What a call returns, or the error that it raises."""
    try:
        return written(call())
    except RiseError as error:
        return (type(error).__name__, sorted(vars(error).items()))


def written(told):
    """A value with what its objects tell in place of them."""
    if isinstance(told, (Table, Region, Grid)):
        return (type(told).__name__, str(told))
    if isinstance(told, Prices):
        return ("Prices", str(told.grid), told.rows())
    if isinstance(told, Game):
        return ("Game", str(told.grid), [str(told.payoff(player)) for player in range(len(told.grid.tops))])
    if isinstance(told, Panel):
        return ("Panel", str(told.table()), str(told.region()), len(told), told.changed(len(told)))
    if isinstance(told, (list, tuple)):
        return [written(part) for part in told]
    return repr(told)


class TestWaysToCrossing(ProgramTest):

    def check_ways(self, grid, table, crossing):
        settings = range(table.settings)
        later = list(itertools.combinations_with_replacement(settings, 2))
        in_settings = all([climbs(table, region) for region in two_of(grid)])
        in_knobs = all([leads(table, table, setting=at, behind=at) for at in settings])
        self.check_same(
            [is_crossing(table), knob_witness(table) is None and setting_witness(table) is None,
             shows(lambda: fall(table)), in_knobs and in_settings,
             all([leads(table, table, setting=late, behind=early) for early, late in later]),
             all([shows(lambda: lead_fall(table, table, setting=late, behind=early)) for early, late in later]),
             chain(*[table.part([at]) for at in settings])],
            [crossing] * 7,
        )
        self.check_same([setting_witness(table) is None, knob_witness(table) is None], [in_settings, in_knobs])
        panel, falls = Panel(table), False
        for region in two_of(grid):
            panel.allow(list(region))
            falls = falls or panel.falls() != []
        self.assertIs(falls, not in_settings)

    def check_crossing(self, grid, table):
        """What is so of crossing tables alone."""
        panel = Panel(table)
        for region in list(all_regions(grid))[::4] + [whole(grid)]:
            panel.allow(list(region))
            tops = [top_best(table, region, setting=setting) for setting in range(table.settings)]
            lows = [low_best(table, region, setting=setting) for setting in range(table.settings)]
            self.check_same([climbs(table, region), panel.falls(), halved(table, region)[0]], [True, [], tops])
            pairs = list(itertools.combinations(range(table.settings), 2))
            self.check_same(panel.held(), [knob for knob in range(len(grid.tops)) if all(
                tops[early][knob] <= lows[late][knob] for early, late in pairs)])
        if len(grid.tops) == 1:
            self.assertIs(crosses_in_stretches(table), True)
        else:
            self.check_game(grid, table)

    def check_game(self, grid, table):
        """A game in which all players have the same crossing table is crossing, and the best options are rests."""
        game = Game([table] * len(grid.tops))
        self.assertIs(game.is_crossing(), True)
        for setting in range(table.settings):
            rests = game.rests(setting=setting)
            climb, descend = game.climb(setting=setting)[-1], game.descend(setting=setting)[-1]
            for option in best(table, whole(grid), setting=setting):
                self.assertIn(option, rests)
            for option in rests:
                self.assertTrue(is_below_by_hand(climb, option) and is_below_by_hand(option, descend))

    def check_prices(self, table, crossing):
        if is_lifting(table):
            self.assertIs(crossing, True)
        else:
            prices, first, second, early, late = price_fall(table)
            less = table.less(prices)
            self.check_same([is_crossing(less), is_fall(less, first, second, early, late), shows(lambda: fall(less))],
                            [False, True, False])

    def test_all_ways_agree(self):
        counts = {True: 0, False: 0}
        for grid, rows in exhaustive()[::3] + larger():
            # One knob of nine levels has too many pairs of regions to go through them.
            if grid.tops == (8,):
                continue
            table, crossing = Table(grid, rows), not falls_by_hand(grid, rows)
            self.check_ways(grid, table, crossing)
            self.check_prices(table, crossing)
            if crossing:
                self.check_crossing(grid, table)
            else:
                first, second, early, late = fall(table)
                self.assertIs(is_fall(table, first, second, early, late), True)
            counts[crossing] += 1
        self.assertGreater(min(counts.values()), 150)

    def test_games_of_two_knobs(self):
        # With two knobs a table crosses in them exactly if the game of it crosses at each setting alone.
        counts = {True: 0, False: 0}
        for grid, rows in exhaustive()[::2] + drawn((2, 1), 20) + drawn((2, 2), 8):
            if len(grid.tops) == 2:
                table = Table(grid, rows)
                alone = all([Game([table.part([at])] * 2).is_crossing() for at in range(table.settings)])
                self.assertIs(knob_witness(table) is None, alone)
                counts[alone] += 1
        self.assertGreater(min(counts.values()), 50)

    def test_tables_of_one_knob(self):
        kinds = {(True, True): 0, (False, True): 0, (False, False): 0}
        for grid, rows in exhaustive() + drawn((3,), 20):
            if len(grid.tops) == 1:
                table = Table(grid, rows)
                in_stretches = all([climbs(table, region) for region in stretches(grid)])
                self.assertIs(crosses_in_stretches(table), in_stretches)
                self.assertIs(crosses_in_state(table), is_crossing(table))
                # Behind signals that tell the state, the table is the payoff itself.
                clear = Signals([[int(at == state) for state in range(table.settings)]
                                 for at in range(table.settings)])
                self.assertIs(expected(table, clear) == table, True)
                self.assertIs(rises_behind(table, clear), climbs(table, whole(grid)))
                self.check_same(chosen(table, clear), [[option[0] for option in told] for told in
                                                       bests(table, whole(grid))])
                kinds[is_crossing(table), in_stretches] += 1
        self.assertGreater(min(kinds.values()), 5)


def made(tops, rows, others):
    """Objects over one grid; each call makes all of them anew."""
    grid = Grid(*tops)
    first, second = Table(grid, rows), Table(grid, others)
    low = Region(grid, [grid.options[0], grid.options[-1]])
    high = box(grid, grid.options[1], grid.options[-1])
    prices = Prices(grid, [[3 * level % 4 - 1 for level in range(top + 1)] for top in tops])
    told = {"grid": grid, "first": first, "second": second, "low": low, "high": high, "prices": prices,
            "panel": Panel(first), "other": Panel(second)}
    if len(tops) > 1:
        told["game"] = Game([first, second, first][:len(tops)])
        told["back"] = Game([second, first, second][:len(tops)])
    return told


# What is asked of objects, told by their names; each of these dictionaries has its questions under names of its own.


def over_tables(at, table, region):
    return {
        f"{number} of {table} {region}": call for number, call in enumerate([
            lambda m: bests(m[table], m[region]), lambda m: best(m[table], m[region], setting=at),
            lambda m: halved(m[table], m[region]), lambda m: climbs(m[table], m[region]),
            lambda m: top_best(m[table], m[region]), lambda m: low_best(m[table], m[region], setting=at),
            lambda m: [knob_witness(m[table]), setting_witness(m[table]), is_crossing(m[table])],
            lambda m: fall(m[table]), lambda m: is_fall(m[table], m["low"], m[region], 0, at),
            lambda m: [lift_witness(m[table]), step_witness(m[table]), is_lifting(m[table])],
            lambda m: price_fall(m[table]), lambda m: m[table].less(m["prices"]), lambda m: m[table] + m["first"],
            lambda m: m[table].part([0, at]), lambda m: m[table].row(at), lambda m: m[table](m["grid"].options[-1], at),
            lambda m: [crosses_in_stretches(m[table]), stretch_witness(m[table]), falling_stretch(m[table])],
            lambda m: peaks(m[table], at), lambda m: leads(m[table], m["second"], setting=at),
            lambda m: lead_witness(m["first"], m[table], behind=at), lambda m: lead_fall(m["second"], m[table]),
            lambda m: chain(m[table], m["second"], m["first"]), lambda m: m["low"] & m[region],
            lambda m: lies_under(m["low"], m[region]), lambda m: rise(m["grid"], m[region], m["low"]),
            lambda m: hull(m["grid"], list(m[region])), lambda m: Panel(m[table]).best(),
            lambda m: crosses_in_state(m[table]), lambda m: rises_behind(m[table], Signals([[2, 1], [1, 3]])),
        ])
    }


def over_games(game, at):
    return {
        f"{number} at {at} of the {game}": call for number, call in enumerate([
            lambda m: m[game].rests(setting=at), lambda m: m[game].is_crossing(), lambda m: m[game].wavering(at),
            lambda m: m[game].climb(setting=at), lambda m: m[game].descend(setting=at), lambda m: m[game].payoff(at),
            lambda m: m[game].by_turns([0, 1, 0], setting=at),
            lambda m: m[game].replies(at, m["grid"].options[1], setting=at),
        ])
    }


def over_panels(panel):
    return {
        f"{number} of the {panel}": call for number, call in enumerate([
            lambda m: m[panel].table(), lambda m: m[panel].region(), lambda m: m[panel].best(),
            lambda m: m[panel].falls(), lambda m: m[panel].held(),
            lambda m: m[panel].supposed([("charge", 0, 0, 5), ("swap", 0, 1), ("allow", list(m["high"]))]),
            lambda m: m[panel].supposed([("charge", 0, 0, 5), ("change", (9, 9), 0, 0)]),
            lambda m: m[panel].change((9,), 0, 1), lambda m: m[panel].changed(1), lambda m: m[panel].undo(),
        ])
    }


def questions(told):
    """All questions that can be asked of some objects."""
    asked = {}
    for at, table, region in itertools.product((0, 1), ("first", "second"), ("low", "high")):
        asked.update({f"{name} at {at}": call for name, call in over_tables(at, table, region).items()})
    for panel in ("panel", "other"):
        asked.update(over_panels(panel))
    if "game" in told:
        for game, at in itertools.product(("game", "back"), (0, 1)):
            asked.update(over_games(game, at))
    return asked


class TestSharedObjects(ProgramTest):

    def samples(self):
        draw = random.Random("shared")
        for tops in ((1, 1), (3,), (2, 1), (1, 1, 1), (1, 0, 2)):
            alike = [rows for _, rows in drawn(tops, 20) if len(rows) == 2]
            for _ in range(4):
                yield tops, draw.choice(alike), draw.choice(alike)

    def test_shared_objects_answer_as_ones_made_anew(self):
        draw = random.Random("asked")
        for tops, rows, others in self.samples():
            shared = made(tops, rows, others)
            before = {name: written(thing) for name, thing in shared.items()}
            asked = list(questions(shared).items()) * 2
            self.assertGreater(len(asked), 400)
            draw.shuffle(asked)
            for name, call in asked:
                anew = made(tops, rows, others)
                self.assertEqual(outcome(lambda: call(shared)), outcome(lambda: call(anew)), name)
            self.assertEqual({name: written(thing) for name, thing in shared.items()}, before)

    def test_deeds_on_one_panel_leave_all_others(self):
        for tops, rows, others in self.samples():
            shared = made(tops, rows, others)
            panel, untouched = Panel(shared["first"]), {name: written(thing) for name, thing in shared.items()}
            panel.change(shared["grid"].options[0], 0, 77)
            panel.charge(0, 0, -5)
            panel.allow(shared["high"].options)
            panel.swap(0, 1)
            later = Panel(panel.table())
            later.change(shared["grid"].options[0], 0, -77)
            panel.undo()
            self.assertEqual({name: written(thing) for name, thing in shared.items()}, untouched)
            anew = made(tops, rows, others)
            for name, call in questions(shared).items():
                self.assertEqual(outcome(lambda: call(shared)), outcome(lambda: call(anew)), name)

    def test_values_of_different_kinds_are_never_equal(self):
        grid = Grid(1)
        kinds = [grid, Region(grid, [(0,), (1,)]), Table(grid, [[0, 1]]), Prices(grid, [[0, 1]]), Signals([[0, 1]]),
                 Player([[0, 1]]), Game([Table(Grid(0, 0), [[0]])] * 2), Hidden(1, 1), Panel(Table(grid, [[0, 1]])),
                 (1,), [[0, 1]], ((0,), (1,)), {}, "1", 0, None]
        for at, one in enumerate(kinds[:5]):
            self.check_like(one, one)
            for other in kinds[:at] + kinds[at + 1:]:
                self.check_unlike(one, other)


if __name__ == "__main__":
    unittest.main()
