"""Points 0.3 to 0.6 for games, and points 11.1 to 11.6."""

import itertools
import random
import unittest

from risingknobs.errors import BadNumber, BadOption, BadSetting, UnlikeGrids
from risingknobs.games import Game
from risingknobs.grids import Grid
from risingknobs.tables import Table
from tests.helpers import ProgramTest
from tests.samples import all_rows, drawn, is_below_by_hand, worths_by_hand

ONE, TWO = [[1, 1, 0, 2], [0, 0, 1, 3]], [[1, 0, 0, 1], [1, 0, 0, 1]]
BACK = [[0, 1, 1, 0], [0, 0, 0, 0]]


def game_of(grid, of_players):
    return Game([Table(grid, rows) for rows in of_players])


def square(*of_players):
    return game_of(Grid(1, 1), of_players)


def moved(option, player, level):
    return option[:player] + (level,) + option[player + 1:]


def replies_by_hand(grid, rows, player, option, setting):
    worths = worths_by_hand(grid, rows[setting])
    levels = {level: worths[moved(option, player, level)] for level in range(grid.tops[player] + 1)}
    return [level for level in levels if levels[level] == max(levels.values())]


def is_rest_by_hand(grid, of_players, option, setting):
    return all(option[player] in replies_by_hand(grid, rows, player, option, setting)
               for player, rows in enumerate(of_players))


def rests_by_hand(grid, of_players, setting):
    return [option for option in grid.options if is_rest_by_hand(grid, of_players, option, setting)]


def wavering_by_hand(grid, rows, player):
    told = []
    for early, late in itertools.combinations_with_replacement(range(len(rows)), 2):
        before, behind = worths_by_hand(grid, rows[early]), worths_by_hand(grid, rows[late])
        for first, second in itertools.product(grid.options, repeat=2):
            if first[player] == second[player] and is_below_by_hand(first, second):
                for level in range(first[player] + 1, grid.tops[player] + 1):
                    higher, later = moved(first, player, level), moved(second, player, level)
                    weak = before[higher] < before[first] or behind[later] >= behind[second]
                    strict = before[higher] <= before[first] or behind[later] > behind[second]
                    if not (weak and strict):
                        told.append((early, late, first, second, level))
    return min(told, default=None)


def crosses_by_hand(grid, of_players):
    return all(wavering_by_hand(grid, rows, player) is None for player, rows in enumerate(of_players))


def walk_by_hand(grid, of_players, start, choose, setting):
    options = [start]
    while True:
        told = [replies_by_hand(grid, rows, player, options[-1], setting) for player, rows in enumerate(of_players)]
        following = tuple(choose(replies) for replies in told)
        if following == options[-1]:
            return options
        options.append(following)


def by_turns_by_hand(grid, of_players, players, setting):
    """The options that come about, one behind the other."""
    options = [grid.options[0]]
    for player in players:
        level = replies_by_hand(grid, of_players[player], player, options[-1], setting)[0]
        options.append(moved(options[-1], player, level))
    return options


def samples():
    """Games, told by the grid and the rows of the players: all of some small ones, and some others."""
    told = []
    small = all_rows(Grid(1, 1), 1, range(2))
    told += [(Grid(1, 1), pair) for pair in itertools.product(small, repeat=2)]
    told += [(Grid(0, 2), pair) for pair in itertools.product(all_rows(Grid(0, 2), 1, range(2)), repeat=2)]
    draw = random.Random("games")
    for tops, count in (((1, 1), 10), ((2, 1), 15), ((1, 2), 12), ((2, 2), 10), ((3, 3), 3), ((1, 1, 1), 12),
                        ((2, 1, 1), 8), ((1, 0, 2), 8), ((0, 0), 2), ((0, 0, 0), 1), ((7, 1), 2)):
        grid = Grid(*tops)
        rows = [rows for _, rows in drawn(tops, count)]
        for _ in range(count * 8):
            first = draw.choice(rows)
            # Those of many drawn tables that have as many settings.
            alike = [other for other in rows if len(other) == len(first)]
            told.append((grid, [first, *[draw.choice(alike) for _ in tops[1:]]]))
        for settings in (1, 2, 3):
            told += [(grid, [crossing_rows(grid, player, settings, draw) for player in range(len(tops))])
                     for _ in range(count)]
    return told


def crossing_rows(grid, player, settings, draw):
    """Rows of a player whose higher levels are worth more beside higher levels and at later settings."""
    factor, costs = draw.randrange(3), [draw.randrange(-4, 9) for _ in range(grid.tops[player] + 1)]
    shifts = {option: draw.randrange(-9, 9) for option in grid.options}
    return [[factor * option[player] * (setting + sum(option) - option[player]) - costs[option[player]]
             + shifts[moved(option, player, 0)] for option in grid.options] for setting in range(settings)]


GAMES = samples()


class TestGame(ProgramTest):

    def test_examples_of_the_interface(self):
        one = Table(Grid(1, 1), [[1, 1, 0, 2], [0, 0, 1, 3]])
        two = Table(Grid(1, 1), [[1, 0, 0, 1], [1, 0, 0, 1]])
        game = Game([one, two])
        self.check_same(
            [game.replies(0, (0, 1)), game.rests(), game.climb(), game.descend(), game.is_crossing()],
            [[1], [(0, 0), (1, 1)], [(0, 0)], [(1, 1)], True],
        )
        back = Table(Grid(1, 1), [[0, 1, 1, 0], [0, 0, 0, 0]])
        self.check_same(
            [game.rests(setting=1), game.climb(setting=1), game.by_turns([1, 0, 1], setting=1),
             Game([back, two]).wavering(0)],
            [[(1, 1)], [(0, 0), (1, 0), (1, 1)], (1, 1), (0, 0, (0, 0), (0, 1), 1)],
        )

    def test_the_attributes_and_the_payoffs(self):
        for grid, of_players in GAMES[::5]:
            game = game_of(grid, of_players)
            self.assertIs(game.grid == grid, True)
            self.check_same(game.settings, len(of_players[0]))
            for player, rows in enumerate(of_players):
                self.assertIs(game.payoff(player) == Table(grid, rows), True)

    def test_the_number_of_the_tables(self):
        for tops in ((1, 1), (1,), (1, 1, 1)):
            table = Table(Grid(*tops), [[0] * len(Grid(*tops))])
            for count in (0, 1, 4, 5):
                self.check_error(BadNumber, {"n": count}, Game, [table] * count)
                self.check_error(BadNumber, {"n": count}, Game, (table,) * count)

    def test_other_grids(self):
        one, two = Table(Grid(1, 1), [[0] * 4]), Table(Grid(3), [[0] * 4])
        three = Table(Grid(1, 1, 0), [[0] * 4])
        self.check_error(UnlikeGrids, {"first": (1, 1), "second": (3,)}, Game, [one, two])
        self.check_error(UnlikeGrids, {"first": (3,), "second": (1, 1)}, Game, [two, one])
        self.check_error(UnlikeGrids, {"first": (1, 1), "second": (1, 1, 0)}, Game, [one, one, three])
        self.check_error(UnlikeGrids, {"first": (1, 1), "second": (3,)}, Game, [one, two, three])
        self.assertIs(Game([one, Table(Grid(1, 1), [[1] * 4])]).grid == Grid(1, 1), True)

    def test_other_numbers_of_settings(self):
        tables = {settings: Table(Grid(1, 1), [[0] * 4] * settings) for settings in (1, 2, 5)}
        self.check_error(BadNumber, {"n": 2}, Game, [tables[1], tables[2]])
        self.check_error(BadNumber, {"n": 1}, Game, [tables[5], tables[1]])
        cubes = {settings: Table(Grid(1, 0, 1), [[0] * 4] * settings) for settings in (1, 2, 3)}
        self.check_error(BadNumber, {"n": 3}, Game, [cubes[2], cubes[2], cubes[3]])
        self.check_error(BadNumber, {"n": 1}, Game, [cubes[2], cubes[1], cubes[3]])

    def test_other_numbers_of_knobs(self):
        for tops, players in (((1,), 2), ((1, 1, 1), 2), ((1,), 3), ((1, 1), 3), ((0, 0, 0), 2)):
            table = Table(Grid(*tops), [[0] * len(Grid(*tops))])
            self.check_error(BadNumber, {"n": len(tops)}, Game, [table] * players)

    def test_errors_of_a_game_come_in_order(self):
        one, two, long = Table(Grid(1, 1), [[0] * 4]), Table(Grid(3), [[0] * 4]), Table(Grid(1, 1), [[0] * 4] * 3)
        self.check_error(BadNumber, {"n": 4}, Game, [one, two, long, one])
        self.check_error(BadNumber, {"n": 1}, Game, [two])
        self.check_error(UnlikeGrids, {"first": (1, 1), "second": (3,)}, Game, [one, long, two])
        self.check_error(UnlikeGrids, {"first": (3,), "second": (1, 1)}, Game, [two, long])
        self.check_error(BadNumber, {"n": 3}, Game, [one, long, one])
        self.check_error(BadNumber, {"n": 1}, Game, [long, one, long])

    def test_the_list_is_copied_and_not_modified(self):
        tables = [Table(Grid(1, 1), ONE), Table(Grid(1, 1), TWO)]
        game = Game(tables)
        self.check_same([str(table) for table in tables], ["1 1; 1 1 0 2; 0 0 1 3", "1 1; 1 0 0 1; 1 0 0 1"])
        tables.reverse()
        tables.pop()
        self.check_same([str(game.payoff(0)), str(game.payoff(1))], ["1 1; 1 1 0 2; 0 0 1 3", "1 1; 1 0 0 1; 1 0 0 1"])
        self.check_same(game.rests(), [(0, 0), (1, 1)])

    def test_the_lists_are_new_ones(self):
        game = square(ONE, TWO)
        for call in (lambda: game.replies(0, (0, 0)), game.rests, game.climb, game.descend):
            expected = repr(call())
            call().clear()
            self.assertEqual(repr(call()), expected)

    def test_no_player(self):
        for game in (square(ONE, TWO), game_of(Grid(1, 0, 1), [ONE, TWO, BACK])):
            count = len(game.grid.tops)
            for n in (-1, -2, -3, count, count + 1):
                self.check_error(BadNumber, {"n": n}, game.payoff, n)
                self.check_error(BadNumber, {"n": n}, game.wavering, n)
                self.check_error(BadNumber, {"n": n}, game.replies, n, game.grid.options[0])
                self.check_error(BadNumber, {"n": n}, lambda: game.replies(n, (9, 9), setting=7))
                self.check_error(BadNumber, {"n": n}, game.by_turns, [0, n])

    def test_no_option(self):
        game = square(ONE, TWO)
        for option in ((2, 0), (0, -1), (0,), (0, 0, 0), ()):
            for given in (option, list(option)):
                self.check_error(BadOption, {"option": option}, game.replies, 1, given)
                self.check_error(BadOption, {"option": option}, game.is_rest, given)
                self.check_error(BadOption, {"option": option}, lambda: game.replies(0, given, setting=5))
                self.check_error(BadOption, {"option": option}, lambda: game.is_rest(given, setting=-1))

    def test_no_setting(self):
        game = square(ONE, TWO)
        for n in (-1, -2, 2, 9):
            for call in (lambda: game.replies(0, (0, 0), setting=n), lambda: game.is_rest((0, 0), setting=n),
                         lambda: game.rests(setting=n), lambda: game.climb(setting=n),
                         lambda: game.descend(setting=n), lambda: game.by_turns([0], setting=n),
                         lambda: game.by_turns([], setting=n)):
                self.check_error(BadSetting, {"n": n}, call)

    def test_the_setting_is_told_by_keyword(self):
        game = square(ONE, TWO)
        for call, arguments in ((game.replies, (0, (0, 0))), (game.is_rest, ((0, 0),)), (game.rests, ()),
                                (game.climb, ()), (game.descend, ()), (game.by_turns, ([0],))):
            with self.assertRaises(TypeError):
                call(*arguments, 0)


class TestReplies(ProgramTest):

    def test_all_replies_and_rests(self):
        several = 0
        for grid, of_players in GAMES[::2]:
            game = game_of(grid, of_players)
            for setting in range(game.settings):
                for option in grid.options:
                    for player, rows in enumerate(of_players):
                        expected = replies_by_hand(grid, rows, player, option, setting)
                        self.check_same(game.replies(player, option, setting=setting), expected)
                        several += len(expected) > 1
                    rest = is_rest_by_hand(grid, of_players, option, setting)
                    self.assertIs(game.is_rest(option, setting=setting), rest)
                self.check_same(game.rests(setting=setting), rests_by_hand(grid, of_players, setting))
        self.assertGreater(several, 100)

    def test_the_setting_is_0_if_it_is_left_out(self):
        game = square(ONE, TWO)
        self.check_same([game.replies(0, (0, 0)), game.replies(0, (0, 0), setting=1)], [[0], [1]])
        self.check_same([game.is_rest((0, 0)), game.is_rest((0, 0), setting=1)], [True, False])
        self.check_same([game.rests(), game.rests(setting=1)], [[(0, 0), (1, 1)], [(1, 1)]])
        self.check_same([game.climb(), game.climb(setting=1)], [[(0, 0)], [(0, 0), (1, 0), (1, 1)]])
        self.check_same([game.by_turns([0, 1]), game.by_turns([0, 1], setting=1)], [(0, 0), (1, 1)])
        falling = square([[2, 1, 1, 0], [0, 0, 1, 1]], [[2, 1, 1, 0], [0, 1, 0, 1]])
        self.check_same([falling.descend(), falling.descend(setting=1)], [[(1, 1), (0, 0)], [(1, 1)]])

    def test_the_own_level_makes_no_difference(self):
        grid = Grid(2, 1)
        game = game_of(grid, [[[1, 2, 3, 4, 3, 9]], [[0, 1, 0, 0, 1, 0]]])
        self.check_same([game.replies(0, (level, 0)) for level in range(3)], [[1, 2]] * 3)
        self.check_same([game.replies(0, [level, 1]) for level in range(3)], [[2]] * 3)
        self.check_same([game.replies(1, (level, own)) for level in range(3) for own in range(2)],
                        [[1], [1], [0, 1], [0, 1], [0], [0]])

    def test_options_as_lists(self):
        game, option = square(ONE, TWO), [1, 1]
        self.check_same([game.replies(1, option), game.is_rest(option), option], [[1], True, [1, 1]])

    def test_a_knob_with_the_top_0(self):
        game = game_of(Grid(0, 2), [[[5, 1, 1]], [[1, 3, 3]]])
        self.check_same([game.replies(0, (0, 1)), game.replies(1, (0, 0)), game.rests()],
                        [[0], [1, 2], [(0, 1), (0, 2)]])
        self.check_same([game.climb(), game.descend(), game.wavering(0), game.is_crossing()],
                        [[(0, 0), (0, 1)], [(0, 2)], None, True])
        game = game_of(Grid(0, 0, 0), [[[5]], [[1]], [[3]]])
        self.check_same([game.rests(), game.climb(), game.descend(), game.by_turns([2, 1, 0]), game.is_crossing()],
                        [[(0, 0, 0)], [(0, 0, 0)], [(0, 0, 0)], (0, 0, 0), True])

    def test_no_rest(self):
        game = square([[1, 0, 0, 1]], [[0, 1, 1, 0]])
        self.check_same([game.rests(), game.is_crossing(), game.wavering(0)], [[], False, None])
        self.check_same([game.is_rest(option) for option in game.grid], [False] * 4)

    def test_long_worths(self):
        most = 10 ** 1000 - 1
        game = square([[most - 1, most, most, 1 - most]], [[most, most, -most, 1 - most]])
        self.check_same([game.replies(0, (0, 0)), game.replies(0, (0, 1)), game.replies(1, (0, 0)), game.rests()],
                        [[1], [0], [0, 1], [(0, 1)]])
        self.check_same([game.wavering(0), game.wavering(1)], [(0, 0, (0, 0), (0, 1), 1), None])


class TestWavering(ProgramTest):

    def test_all_tables(self):
        counts = {True: 0, False: 0}
        for grid, of_players in GAMES[::2]:
            game = game_of(grid, of_players)
            told = [wavering_by_hand(grid, rows, player) for player, rows in enumerate(of_players)]
            for player, expected in enumerate(told):
                self.check_same(game.wavering(player), expected)
            crossing = told == [None] * len(told)
            self.assertIs(game.is_crossing(), crossing)
            counts[crossing] += 1
        self.assertGreater(min(counts.values()), 100)

    def test_the_first_place(self):
        flat = [[0] * 4] * 3
        told = {
            # At one setting, from one option to another one.
            ((0, 0, 1, -1), (0, 0, 1, 1), (0, 0, 1, 1)): (0, 0, (0, 0), (0, 1), 1),
            ((0, 0, 1, 1), (0, 0, 1, 0), (0, 0, 1, 1)): (0, 1, (0, 0), (0, 1), 1),
            # From one setting to the next one, at the same option and at another one.
            ((0, 0, 1, 1), (0, 0, 0, 1), (0, 0, 1, 1)): (0, 1, (0, 0), (0, 0), 1),
            ((0, 0, -1, 1), (0, 0, -1, 0), (0, 0, 1, 1)): (0, 1, (0, 1), (0, 1), 1),
            # From the first setting to the last one.
            ((0, 0, -1, 1), (0, 0, -1, 1), (0, 0, 1, 0)): (0, 2, (0, 1), (0, 1), 1),
            ((0, 0, -1, -1), (0, 0, 0, 0), (0, 0, -1, 0)): (1, 2, (0, 0), (0, 0), 1),
            ((0, 0, -1, -1), (0, 0, -1, 0), (0, 0, -1, 0)): None,
            ((0, 0, -1, 0), (0, 0, 0, 0), (0, 0, 1, 1)): None,
        }
        for rows, place in told.items():
            game = square([list(row) for row in rows], flat)
            self.check_same([game.wavering(0), game.wavering(1), game.is_crossing()], [place, None, place is None])

    def test_the_second_player(self):
        game = square([[0] * 4], [[0, 1, 0, 0]])
        self.check_same([game.wavering(0), game.wavering(1), game.is_crossing()],
                        [None, (0, 0, (0, 0), (1, 0), 1), False])

    def test_a_higher_level_that_is_not_the_next_one(self):
        # 1 gains over 0 and 2 over 1 wherever they did, but 2 does not over 0.
        game = game_of(Grid(2, 1), [[[0, 0, -2, -3, 1, -1]], [[0] * 6]])
        self.check_same(game.wavering(0), (0, 0, (0, 0), (0, 1), 2))
        game = game_of(Grid(0, 2, 1), [[[0] * 6], [[0, 0, -2, -3, 1, -1]], [[0] * 6]])
        self.check_same(game.wavering(1), (0, 0, (0, 0, 0), (0, 0, 1), 2))

    def test_the_own_worths_beside_other_levels_are_not_compared(self):
        game = square([[9, -9, 10, -8]], [[0, 1, 99, 100]])
        self.check_same([game.wavering(0), game.wavering(1), game.is_crossing()], [None, None, True])


class TestWalks(ProgramTest):

    def test_walks_of_crossing_games(self):
        several = 0
        for grid, of_players in GAMES:
            if not crosses_by_hand(grid, of_players):
                continue
            game, ends = game_of(grid, of_players), []
            for setting in range(game.settings):
                rests = rests_by_hand(grid, of_players, setting)
                climb, descend = game.climb(setting=setting), game.descend(setting=setting)
                self.check_same(climb, walk_by_hand(grid, of_players, grid.options[0], min, setting))
                self.check_same(descend, walk_by_hand(grid, of_players, grid.options[-1], max, setting))
                self.assertIn(climb[-1], rests)
                self.assertIn(descend[-1], rests)
                for rest in rests:
                    self.assertTrue(is_below_by_hand(climb[-1], rest) and is_below_by_hand(rest, descend[-1]))
                ends.append((climb[-1], descend[-1]))
                several += len(rests) > 1 and len(climb) > 1
            for early, late in itertools.combinations(ends, 2):
                self.assertTrue(is_below_by_hand(early[0], late[0]) and is_below_by_hand(early[1], late[1]))
        self.assertGreater(several, 10)

    def test_longer_walks(self):
        # Each player's best level is the other one's, or one more for the first one.
        grid = Grid(3, 3)
        one = [[-abs(min(other + 1, 3) - own) for own in range(4) for other in range(4)]]
        two = [[-abs(other - own) for other in range(4) for own in range(4)]]
        game = game_of(grid, [one, two])
        self.check_same(game.climb(), [(0, 0), (1, 0), (1, 1), (2, 1), (2, 2), (3, 2), (3, 3)])
        self.check_same([game.descend(), game.rests(), game.is_crossing()], [[(3, 3)], [(3, 3)], True])

    def test_descend_takes_the_greatest_replies_and_climb_the_least(self):
        game = game_of(Grid(2, 2), [[[0] * 9], [[1, 1, 0] * 3]])
        self.check_same([game.climb(), game.descend()], [[(0, 0)], [(2, 2), (2, 1)]])

    def test_games_that_do_not_cross(self):
        flat, steady = [[0] * 4] * 2, [[0, 0, 1, 1]] * 2
        later = [[0, 0, 1, 1], [0, 0, 0, 1]]
        second = [[0, 1, 0, 0], [0, 0, 0, 0]]
        for of_players, player in (((BACK, TWO), 0), ((BACK, second), 0), ((flat, second), 1), ((steady, second), 1),
                                   ((later, flat), 0)):
            game = square(*of_players)
            for setting in (0, 1):
                self.check_error(BadNumber, {"n": player}, lambda: game.climb(setting=setting))
                self.check_error(BadNumber, {"n": player}, lambda: game.descend(setting=setting))
            # The setting is looked at first.
            for n in (-1, 2):
                self.check_error(BadSetting, {"n": n}, lambda: game.climb(setting=n))
                self.check_error(BadSetting, {"n": n}, lambda: game.descend(setting=n))
        cube = [[0] * 8]
        game = game_of(Grid(1, 1, 1), [cube, cube, [[0, 1, 0, 0, 0, 0, 0, 0]]])
        self.check_error(BadNumber, {"n": 2}, game.climb)
        self.check_error(BadNumber, {"n": 2}, game.descend)

    def test_all_games_that_do_not_cross(self):
        count = 0
        for grid, of_players in GAMES[::5]:
            told = [player for player, rows in enumerate(of_players) if wavering_by_hand(grid, rows, player)]
            if told:
                self.check_error(BadNumber, {"n": told[0]}, game_of(grid, of_players).climb)
                self.check_error(BadNumber, {"n": told[0]}, game_of(grid, of_players).descend)
                count += 1
        self.assertGreater(count, 20)


class TestTurns(ProgramTest):

    def test_any_turns(self):
        draw = random.Random("turns")
        for grid, of_players in GAMES[::3]:
            game = game_of(grid, of_players)
            for setting in range(game.settings):
                players = [draw.randrange(len(of_players)) for _ in range(draw.randrange(8))]
                expected = by_turns_by_hand(grid, of_players, players, setting)[-1]
                self.check_same(game.by_turns(players, setting=setting), expected)
                self.check_same(game.by_turns(tuple(players), setting=setting), expected)

    def test_no_turns(self):
        for game in (square(ONE, TWO), square(BACK, TWO), game_of(Grid(1, 0, 1), [ONE, TWO, BACK])):
            self.check_same(game.by_turns([]), game.grid.options[0])

    def test_turns_by_hand(self):
        game = square([[0, 1, 1, 0]], [[0, 1, 0, 1]])
        self.check_same([game.by_turns(players) for players in ([0], [1], [0, 1], [1, 0], [0, 1, 0], [0, 0])],
                        [(1, 0), (0, 1), (1, 1), (0, 1), (0, 1), (1, 0)])

    def test_turns_in_crossing_games(self):
        for grid, of_players in GAMES[::3]:
            if not crosses_by_hand(grid, of_players):
                continue
            game = game_of(grid, of_players)
            for setting in range(game.settings):
                rests, end = rests_by_hand(grid, of_players, setting), game.climb(setting=setting)[-1]
                for order in itertools.permutations(range(len(of_players))):
                    players = list(order) * (sum(grid.tops) + 1)
                    options = by_turns_by_hand(grid, of_players, players, setting)
                    for early, late in zip(options, options[1:]):
                        self.assertTrue(is_below_by_hand(early, late))
                    for rest in rests:
                        self.assertTrue(is_below_by_hand(options[-1], rest))
                    self.check_same([options[-1], game.by_turns(players, setting=setting)], [end, end])

    def test_players_that_are_none(self):
        game = square(ONE, TWO)
        for players, n in (([2], 2), ([-1], -1), ([0, 1, 3, -1], 3), ([0, -2, 5], -2)):
            self.check_error(BadNumber, {"n": n}, game.by_turns, players)
            self.check_error(BadNumber, {"n": n}, lambda: game.by_turns(players, setting=7))
        players = [1, 0, 1]
        game.by_turns(players)
        self.check_same(players, [1, 0, 1])


if __name__ == "__main__":
    unittest.main()
