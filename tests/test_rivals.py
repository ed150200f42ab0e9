"""Points 0.3 to 0.6 for rivals, and points 10.1 to 10.5."""

import itertools
import random
import unittest

from risingknobs.errors import AlikeWorths, BadNumber, NothingToShow
from risingknobs.rivals import (Player, all_rivals, always_rests, climb, descend, falling_reply, is_rising, restless,
                                rests)
from tests.helpers import ProgramTest

CALM = [[5, 3, 1], [2, 4, 3], [0, 1, 7]]
MOST = 10 ** 1000 - 1


def replying(levels, replies):
    """The worths of a player with some replies."""
    return [[9 if own == reply else -own for own in range(levels)] for reply in replies]


def all_replies(levels, against):
    return list(itertools.product(range(levels), repeat=against))


def sizes():
    return [(levels, against) for levels in range(1, 5) for against in range(1, 4)] + [(2, 5), (3, 4)]


def is_rising_by_hand(row):
    return list(row) == sorted(row)


def rivals_by_hand(levels, against):
    return [rival for rival in itertools.product(range(against), repeat=levels) if is_rising_by_hand(rival)]


def rests_by_hand(replies, rival):
    levels, against = len(rival), len(replies)
    return [(own, other) for own in range(levels) for other in range(against)
            if replies[other] == own and rival[own] == other]


def walk_by_hand(replies, rival, start):
    levels = [start]
    while len(set(levels)) == len(levels):
        levels.append(replies[rival[levels[-1]]])
    return levels


class TestPlayer(ProgramTest):

    def test_examples_of_the_interface(self):
        calm, odd = Player([[5, 3, 1], [2, 4, 3], [0, 1, 7]]), Player([[0, 1], [1, 0]])
        self.check_same(
            [calm.replies(), rests(calm, [0, 1, 2]), climb(calm, [0, 1, 2]), descend(calm, [0, 0, 1]),
             is_rising(calm)],
            [[0, 1, 2], [(0, 0), (1, 1), (2, 2)], [0, 0], [2, 1, 0, 0], True],
        )
        self.check_same(
            [odd.replies(), rests(odd, restless(odd)), list(all_rivals(odd)), climb(odd, [0, 1])],
            [[1, 0], [], [(0, 0), (0, 1), (1, 1)], [0, 1, 0]],
        )

    def test_all_sizes(self):
        draw = random.Random("players")
        for levels, against in itertools.product(range(1, 6), repeat=2):
            worths = [draw.sample(range(-9, 10), levels) for _ in range(against)]
            player = Player(worths)
            self.check_same([player.levels, player.against], [levels, against])
            for own, other in itertools.product(range(levels), range(against)):
                self.check_same(player.worth(own, other), worths[other][own])
            replies = [max(range(levels), key=row.__getitem__) for row in worths]
            self.check_same([player.reply(other) for other in range(against)], replies)
            self.check_same(player.replies(), replies)

    def test_worths_below_0(self):
        self.check_same(Player([[-3, -1, -2], [-1, -5, -9]]).replies(), [1, 0])

    def test_the_number_of_the_rows(self):
        for count in (0, 6, 7):
            self.check_error(BadNumber, {"n": count}, Player, [[1, 2]] * count)
        self.check_error(BadNumber, {"n": 0}, Player, ())
        self.check_error(BadNumber, {"n": 6}, Player, [[], [1, 1], [1], [1], [1], [1]])

    def test_the_length_of_the_first_row(self):
        for length in (0, 6, 8):
            self.check_error(BadNumber, {"n": length}, Player, [list(range(length))])
            self.check_error(BadNumber, {"n": length}, Player, [[1] * length, [1]])

    def test_the_lengths_of_the_other_rows(self):
        for row in ([], [1], [1, 2, 3], [1, 1, 1], [1] * 6):
            self.check_error(BadNumber, {"n": len(row)}, Player, [[1, 2], row])
            self.check_error(BadNumber, {"n": len(row)}, Player, ([1, 2], (3, 4), tuple(row), [5, 5]))

    def test_worths_alike(self):
        told = {(4, 4): (0, 1), (1, 2, 1): (0, 2), (1, 2, 2): (1, 2), (1, 2, 2, 1): (0, 3), (3, 2, 2, 2): (1, 2),
                (7, 7, 7): (0, 1), (1, 2, 3, 4, 1): (0, 4), (1, 2, 3, 2, 1): (0, 4), (5, 1, 2, 1, 2): (1, 3)}
        for row, (first, second) in told.items():
            others = [list(range(len(row))), list(range(len(row)))]
            self.check_error(AlikeWorths, {"first": (0, first), "second": (0, second)}, Player, [row])
            self.check_error(AlikeWorths, {"first": (2, first), "second": (2, second)}, Player, [*others, list(row)])
            self.check_error(AlikeWorths, {"first": (1, first), "second": (1, second)}, Player,
                             [others[0], list(row), [8] * len(row)])
        self.check_error(AlikeWorths, {"first": (0, 0), "second": (0, 1)}, Player, [[MOST, MOST]])

    def test_the_same_worth_in_several_rows(self):
        self.check_same(Player([[1, 2], [1, 2], [2, 1]]).replies(), [1, 1, 0])

    def test_errors_of_a_player_come_row_by_row(self):
        self.check_error(AlikeWorths, {"first": (0, 0), "second": (0, 1)}, Player, [[1, 1], [1, 2, 3]])
        self.check_error(AlikeWorths, {"first": (1, 0), "second": (1, 1)}, Player, [[1, 2], [3, 3], []])
        self.check_error(BadNumber, {"n": 3}, Player, [[1, 2], [1, 1, 1], [3, 3]])
        self.check_error(BadNumber, {"n": 1}, Player, [[1, 2], [4, 5], [1], [3, 3]])

    def test_lists_are_copied_and_not_modified(self):
        worths = [[5, 3, 1], [2, 4, 3]]
        player = Player(worths)
        self.check_same(worths, [[5, 3, 1], [2, 4, 3]])
        worths[0][0] = -9
        worths.pop()
        player.replies().clear()
        self.check_same([player.against, player.replies(), player.worth(0, 0)], [2, [0, 1], 5])

    def test_tuples_instead_of_lists(self):
        player = Player(((5, 3, 1), [2, 4, 3], (0, 1, 7)))
        self.check_same([player.replies(), rests(player, (0, 0, 1))], [[0, 1, 2], [(0, 0)]])
        self.check_same([climb(player, (2, 2, 2)), descend(player, (2, 2, 2))], [[0, 2, 2], [2, 2]])

    def test_no_levels(self):
        player = Player([[1, 2, 3, 4], [4, 3, 2, 1]])
        for own in (-1, -4, 4, 5):
            self.check_error(BadNumber, {"n": own}, player.worth, own, 0)
            self.check_error(BadNumber, {"n": own}, player.worth, own, 7)
        for other in (-1, -2, 2, 3):
            self.check_error(BadNumber, {"n": other}, player.worth, 3, other)
            self.check_error(BadNumber, {"n": other}, player.reply, other)
        self.check_same(player.worth(3, 1), 1)

    def test_long_worths(self):
        player = Player([[MOST - 1, MOST, -MOST], [-MOST, 1 - MOST, MOST]])
        self.check_same([player.replies(), player.worth(2, 0) == -MOST, is_rising(player)], [[1, 2], True, True])


class TestReplies(ProgramTest):

    def test_falling_replies(self):
        counts = {True: 0, False: 0}
        for levels, against in [*sizes(), (2, 5), (5, 3)]:
            for replies in all_replies(levels, against):
                player, rising = Player(replying(levels, replies)), is_rising_by_hand(replies)
                told = [pair for pair in itertools.combinations(range(against), 2)
                        if replies[pair[1]] < replies[pair[0]]]
                self.check_same(player.replies(), list(replies))
                self.check_same([falling_reply(player), is_rising(player)], [min(told, default=None), rising])
                counts[rising] += 1
        self.assertGreater(min(counts.values()), 100)

    def test_falling_replies_by_hand(self):
        told = {(0, 0): None, (1, 0): (0, 1), (0, 2, 1): (1, 2), (1, 2, 0): (0, 2), (2, 2, 2, 2, 1): (0, 4),
                (0, 1, 2, 2, 2): None, (0, 1, 2, 1, 0): (1, 4)}
        for replies, pair in told.items():
            self.check_same(falling_reply(Player(replying(3, replies))), pair)

    def test_one_level_alone(self):
        player = Player([[3], [3], [1]])
        self.check_same([player.replies(), falling_reply(player), always_rests(player)], [[0, 0, 0], None, True])
        self.check_same([list(all_rivals(player)), rests(player, [2])], [[(0,), (1,), (2,)], [(0, 2)]])
        self.check_same([climb(player, [1]), descend(player, [1])], [[0, 0], [0, 0]])
        player = Player([[1, 3, 2]])
        self.check_same([player.replies(), falling_reply(player), always_rests(player)], [[1], None, True])
        self.check_same([list(all_rivals(player)), rests(player, [0, 0, 0])], [[(0, 0, 0)], [(1, 0)]])
        self.check_same([climb(player, [0, 0, 0]), descend(player, [0, 0, 0])], [[0, 1, 1], [2, 1, 1]])


class TestRests(ProgramTest):

    def test_rests_and_walks_against_all_rivals(self):
        for levels, against in sizes():
            for replies in all_replies(levels, against):
                player = Player(replying(levels, replies))
                for rival in itertools.product(range(against), repeat=levels):
                    self.check_same(rests(player, list(rival)), rests_by_hand(replies, rival))
                    self.check_same(climb(player, list(rival)), walk_by_hand(replies, rival, 0))
                    self.check_same(descend(player, list(rival)), walk_by_hand(replies, rival, levels - 1))

    def test_walks_by_hand(self):
        player = Player(replying(5, (1, 3, 0, 4, 2)))
        self.check_same(climb(player, [0, 1, 4, 2, 3]), [0, 1, 3, 0])
        self.check_same(descend(player, [0, 1, 4, 2, 3]), [4, 4])
        self.check_same(descend(player, [0, 1, 3, 2, 4]), [4, 2, 4])
        self.check_same(climb(player, [0, 1, 3, 4, 1]), [0, 1, 3, 2, 4, 3])
        self.check_same(rests(player, [2, 0, 4, 1, 3]), [(0, 2), (1, 0), (2, 4), (3, 1), (4, 3)])

    def test_rising_walks_end_at_the_least_and_the_greatest_rest(self):
        several = 0
        for levels, against in sizes():
            for replies in filter(is_rising_by_hand, all_replies(levels, against)):
                player = Player(replying(levels, replies))
                for rival in rivals_by_hand(levels, against):
                    told = rests_by_hand(replies, rival)
                    self.check_same([climb(player, rival)[-1], descend(player, rival)[-1]],
                                    [min(told)[0], max(told)[0]])
                    several += len(told) > 1
        self.assertGreater(several, 100)

    def test_rivals_that_do_not_fit(self):
        player = Player([[1, 2, 3], [3, 2, 1]])
        for call in (rests, climb, descend):
            for rival in ([], [0], [0, 1], [0, 1, 1, 1], [9, 9], [-1] * 4):
                self.check_error(BadNumber, {"n": len(rival)}, call, player, rival)
                self.check_error(BadNumber, {"n": len(rival)}, call, player, tuple(rival))
            for rival, n in (([0, 1, 2], 2), ([-1, 0, 1], -1), ([1, -2, 5], -2), ([0, 5, -1], 5), ([1, 0, -1], -1),
                             ([2, 0, 0], 2)):
                self.check_error(BadNumber, {"n": n}, call, player, rival)

    def test_rivals_may_go_down(self):
        player = Player([[1, 2, 3], [3, 2, 1]])
        self.check_same([rests(player, [1, 0, 0]), climb(player, [1, 0, 0]), descend(player, [1, 1, 0])],
                        [[(0, 1), (2, 0)], [0, 0], [2, 2]])
        self.check_same([climb(player, [0, 1, 1]), descend(player, [0, 1, 1])], [[0, 2, 0], [2, 0, 2]])

    def test_rivals_are_not_modified_and_the_lists_are_new_ones(self):
        player, rival = Player(CALM), [0, 1, 2]
        for call in (rests, climb, descend):
            expected = repr(call(player, rival))
            call(player, rival).clear()
            self.assertEqual(repr(call(player, rival)), expected)
        self.check_same([rival, player.replies()], [[0, 1, 2], [0, 1, 2]])


class TestRivals(ProgramTest):

    def test_all_rivals(self):
        for levels, against in itertools.product(range(1, 6), repeat=2):
            player = Player(replying(levels, [0] * against))
            self.check_same(list(all_rivals(player)), rivals_by_hand(levels, against))

    def test_all_rivals_is_a_generator(self):
        told = all_rivals(Player(CALM))
        self.assertIs(iter(told), told)
        self.check_same([next(told), next(told), len(list(told)), next(told, None)], [(0, 0, 0), (0, 0, 1), 8, None])

    def test_a_walk_while_another_one_goes_on(self):
        player, pairs = Player(CALM), []
        for rival in all_rivals(player):
            for other in all_rivals(player):
                pairs.append((rival, other))
        expected = rivals_by_hand(3, 3)
        self.check_same(pairs, [(rival, other) for rival in expected for other in expected])
        first, second = all_rivals(player), all_rivals(Player([[1, 2], [2, 1]]))
        self.check_same([next(first), next(second), next(first), next(second)],
                        [(0, 0, 0), (0, 0), (0, 0, 1), (0, 1)])

    def test_a_rest_against_every_rising_rival_exactly_if_the_replies_rise(self):
        counts = {True: 0, False: 0}
        for levels, against in [*sizes(), (5, 2)]:
            rivals = rivals_by_hand(levels, against)
            for replies in all_replies(levels, against):
                player = Player(replying(levels, replies))
                expected = all(rests_by_hand(replies, rival) for rival in rivals)
                self.assertIs(expected, is_rising_by_hand(replies))
                self.assertIs(always_rests(player), expected)
                counts[expected] += 1
        self.assertGreater(min(counts.values()), 100)

    def test_restless(self):
        shown = 0
        for levels, against in [*sizes(), (5, 3), (2, 5)]:
            for replies in all_replies(levels, against):
                player = Player(replying(levels, replies))
                if is_rising_by_hand(replies):
                    self.check_error(NothingToShow, {}, restless, player)
                    continue
                rival = restless(player)
                self.assertIs(type(rival), list)
                self.assertIn(tuple(rival), rivals_by_hand(levels, against))
                self.assertEqual({type(other) for other in rival}, {int})
                self.check_same([rests_by_hand(replies, rival), rests(player, rival)], [[], []])
                shown += 1
        self.assertGreater(shown, 100)

    def test_restless_gives_a_new_list(self):
        player = Player([[0, 1], [1, 0]])
        restless(player).clear()
        self.check_same(restless(player), [0, 1])

    def test_nothing_to_show(self):
        for worths in ([[1]], [[1, 2, 3]], [[1], [2]], CALM, [[1, 2], [0, 9], [-1, 0]]):
            self.check_error(NothingToShow, {}, restless, Player(worths))


if __name__ == "__main__":
    unittest.main()
