"""Points 0.3 to 0.6 for hidden replies, and points 13.1 to 13.6."""

import itertools
import random
import unittest

from risingknobs.errors import BadNumber, BadText, NothingToUndo
from risingknobs.hidden import Hidden
from risingknobs.rivals import Player, rests as rests_of_player
from tests.helpers import ProgramTest

WORDS = ("at", "least", "most")


def fits(reply, facts):
    """Whether a reply fits some facts."""
    for word, level, value in facts:
        if word != "most" and reply[level] < value:
            return False
        if word != "least" and reply[level] > value:
            return False
    return True


REPLIES = {}


def replies_by_hand(top, rival_top, facts=()):
    """All replies that fit some facts, in ascending order."""
    if (top, rival_top) not in REPLIES:
        REPLIES[top, rival_top] = [reply for reply in itertools.product(range(top + 1), repeat=rival_top + 1)
                                   if list(reply) == sorted(reply)]
    return [reply for reply in REPLIES[top, rival_top] if fits(reply, facts)]


def says_by_hand(held):
    """The word for what holds with some replies that fit: held has True and False for each of them."""
    return "sure" if all(held) else "open" if any(held) else "never"


def best_by_hand(top, replies, levels):
    most = [max(sum(reply[level] == value for reply in replies) for value in range(top + 1)) for level in levels]
    return most.index(min(most)) if most else None


def rests_by_hand(reply, rival):
    return [own for own in range(len(rival)) if reply[rival[own]] == own]


def all_facts(top, rival_top):
    return list(itertools.product(WORDS, range(rival_top + 1), range(top + 1)))


def rivals_by_hand(top, rival_top):
    return [list(rival) for rival in itertools.product(range(rival_top + 1), repeat=top + 1)
            if list(rival) == sorted(rival)]


def told(top, rival_top, *facts):
    hidden = Hidden(top, rival_top)
    for fact in facts:
        assert hidden.tell(fact) is True
    return hidden


class HiddenTest(ProgramTest):

    def check_all(self, hidden, top, rival_top, facts, rivals):
        """All that a hidden reply answers is so for the replies that fit some facts."""
        replies = replies_by_hand(top, rival_top, facts)
        self.check_same([hidden.told(), len(hidden), hidden.many()], [list(facts), len(facts), len(replies)])
        levels, own = range(rival_top + 1), range(top + 1)
        self.check_same(hidden.low(), [min(reply[level] for reply in replies) for level in levels])
        self.check_same(hidden.high(), [max(reply[level] for reply in replies) for level in levels])
        for level, value in itertools.product(levels, own):
            expected = says_by_hand([reply[level] == value for reply in replies])
            self.check_same(hidden.says(level, value), expected)
        self.check_same(hidden.best(*levels), best_by_hand(top, replies, levels))
        for rival in rivals:
            known = [rests_by_hand(reply, rival) for reply in replies]
            self.check_same(hidden.rests(rival), {at: says_by_hand([at in rests for rests in known]) for at in own})
            for call, at in ((hidden.least_rest, 0), (hidden.greatest_rest, -1)):
                ends = [rests[at] for rests in known]
                self.check_same(call(rival), (min(ends), max(ends)))


class TestHidden(HiddenTest):

    def test_examples_of_the_interface(self):
        hidden = Hidden(2, 3)
        self.check_same(
            [hidden.many(), hidden.tell(("least", 1, 1)), hidden.tell(("at", 2, 0)), hidden.tell(("most", 2, 1)),
             hidden.many()],
            [15, True, False, True, 4],
        )
        self.check_same(
            [hidden.low(), hidden.high(), hidden.says(1, 1), hidden.says(3, 0), hidden.says(0, 1),
             hidden.best(1, 0, 3)],
            [[0, 1, 1, 1], [1, 1, 1, 2], "sure", "never", "open", 1],
        )
        self.check_same(
            [hidden.rests([0, 1, 3]), hidden.least_rest([0, 1, 3]), hidden.greatest_rest([0, 1, 3]), hidden.undo(),
             hidden.told()],
            [{0: "open", 1: "sure", 2: "open"}, (0, 1), (1, 2), None, [("least", 1, 1)]],
        )

    def test_all_tops_without_facts(self):
        for top, rival_top in itertools.product(range(7), repeat=2):
            if top * rival_top <= 20:
                hidden = Hidden(top, rival_top)
                self.check_all(hidden, top, rival_top, [], rivals_by_hand(top, rival_top)[::9])
        hidden = Hidden(6, 6)
        self.check_same([hidden.many(), hidden.low(), hidden.high()], [1716, [0] * 7, [6] * 7])
        self.check_same([hidden.best(3, 0, 6), hidden.says(6, 6), len(hidden), hidden.told()], [0, "open", 0, []])

    def test_tops_that_are_none(self):
        for n in (-1, -2, 7, 8, 100):
            self.check_error(BadNumber, {"n": n}, Hidden, n, 0)
            self.check_error(BadNumber, {"n": n}, Hidden, 6, n)
            self.check_error(BadNumber, {"n": n}, Hidden, n, -5)

    def test_one_fact(self):
        for top, rival_top in ((0, 0), (0, 3), (3, 0), (2, 2), (1, 4), (4, 1), (3, 2)):
            rivals = rivals_by_hand(top, rival_top)
            for fact in all_facts(top, rival_top):
                hidden = Hidden(top, rival_top)
                self.assertIs(hidden.tell(fact), True)
                self.check_all(hidden, top, rival_top, [fact], rivals)

    def test_each_two_facts(self):
        answers = {True: 0, False: 0}
        for top, rival_top in ((1, 1), (2, 1), (1, 2), (2, 2)):
            rivals = rivals_by_hand(top, rival_top)[::3]
            for first, second in itertools.product(all_facts(top, rival_top), repeat=2):
                hidden = told(top, rival_top, first)
                expected = len(replies_by_hand(top, rival_top, [first, second])) > 0
                self.assertIs(hidden.tell(second), expected)
                self.check_all(hidden, top, rival_top, [first, second] if expected else [first], rivals)
                answers[expected] += 1
        self.assertGreater(min(answers.values()), 100)

    def test_many_facts_and_undos(self):
        draw = random.Random("hidden")
        counts = {"told": 0, "not": 0, "undone": 0}
        for top, rival_top in ((3, 3), (6, 2), (2, 6), (4, 4), (1, 6), (6, 1)):
            facts, rivals = all_facts(top, rival_top), rivals_by_hand(top, rival_top)
            for _ in range(6):
                hidden, kept = Hidden(top, rival_top), []
                for _ in range(12):
                    if kept and draw.random() < 0.3:
                        self.assertIsNone(hidden.undo())
                        kept.pop()
                        counts["undone"] += 1
                    else:
                        fact = draw.choice(facts)
                        expected = len(replies_by_hand(top, rival_top, [*kept, fact])) > 0
                        self.assertIs(hidden.tell(fact), expected)
                        kept += [fact] if expected else []
                        counts["told" if expected else "not"] += 1
                    self.check_all(hidden, top, rival_top, kept, draw.sample(rivals, min(4, len(rivals))))
        self.assertGreater(min(counts.values()), 30)

    def test_facts_told_again_and_that_follow_from_others(self):
        hidden = Hidden(3, 2)
        facts = [("least", 0, 2), ("least", 0, 2), ("least", 1, 1), ("most", 2, 3), ("at", 1, 2), ("at", 1, 2),
                 ("most", 0, 2)]
        for count, fact in enumerate(facts):
            self.assertIs(hidden.tell(fact), True)
            self.check_same([hidden.told(), len(hidden)], [facts[:count + 1], count + 1])
        for count in range(len(facts) - 1, -1, -1):
            self.check_all(hidden, 3, 2, facts[:count + 1], [[0, 0, 1, 2]])
            self.assertIsNone(hidden.undo())
        self.check_all(hidden, 3, 2, [], [[0, 0, 1, 2]])
        self.check_error(NothingToUndo, {}, hidden.undo)

    def test_facts_that_cannot_hold(self):
        hidden = told(3, 2, ("at", 1, 2))
        for fact in (("at", 1, 1), ("at", 1, 3), ("most", 1, 1), ("least", 1, 3), ("least", 0, 3), ("at", 0, 3),
                     ("most", 2, 1), ("at", 2, 0)):
            self.assertIs(hidden.tell(fact), False)
            self.assertIs(hidden.tell(list(fact)), False)
            self.check_all(hidden, 3, 2, [("at", 1, 2)], [[0, 1, 1, 2]])
        for fact in (("at", 0, 2), ("at", 2, 2)):
            self.assertIs(hidden.tell(fact), True)
        self.check_same([hidden.many(), hidden.low(), hidden.high()], [1, [2, 2, 2], [2, 2, 2]])

    def test_facts_as_lists(self):
        hidden, fact = Hidden(3, 2), ["least", 1, 2]
        self.assertIs(hidden.tell(fact), True)
        self.check_same([hidden.told(), fact], [[("least", 1, 2)], ["least", 1, 2]])
        fact[2] = 0
        self.check_same([hidden.told(), hidden.low()], [[("least", 1, 2)], [0, 2, 2]])

    def test_the_answers_are_new_ones(self):
        hidden = told(2, 3, ("least", 1, 1), ("most", 2, 1))
        for call in (hidden.told, hidden.low, hidden.high, lambda: hidden.rests([0, 1, 3])):
            expected = repr(call())
            call().clear()
            self.assertEqual(repr(call()), expected)
        self.check_same([len(hidden), hidden.many()], [2, 4])

    def test_two_hidden_replies(self):
        first, second = Hidden(2, 2), Hidden(2, 2)
        first.tell(("at", 0, 1))
        self.check_same([len(first), len(second), first.many(), second.many()], [1, 0, 3, 10])


class TestAnswers(HiddenTest):

    def test_between_the_least_and_the_greatest_reply(self):
        for facts in ([("least", 1, 1), ("most", 2, 1)], [("at", 2, 2)], [("most", 0, 0), ("least", 3, 2)]):
            hidden = told(2, 3, *facts)
            replies = replies_by_hand(2, 3, facts)
            self.assertIn(tuple(hidden.low()), replies)
            self.assertIn(tuple(hidden.high()), replies)

    def test_best_of_some_levels(self):
        draw = random.Random("best")
        for top, rival_top in ((3, 3), (2, 5), (5, 2), (6, 3), (0, 2), (2, 0)):
            for _ in range(20):
                hidden = Hidden(top, rival_top)
                for fact in draw.sample(all_facts(top, rival_top), min(3, 3 * (top + 1) * (rival_top + 1))):
                    hidden.tell(fact)
                levels = [draw.randrange(rival_top + 1) for _ in range(draw.randrange(6))]
                expected = best_by_hand(top, replies_by_hand(top, rival_top, hidden.told()), levels)
                self.check_same(hidden.best(*levels), expected)

    def test_best_by_hand(self):
        hidden = Hidden(1, 4)
        # Of the six replies that fit, as many answer 1 to a level as the level tells and one more.
        self.check_same([hidden.best(), hidden.best(0), hidden.best(0, 0, 4), hidden.best(0, 1, 2, 3)],
                        [None, 0, 0, 2])
        self.check_same([hidden.best(4, 3, 2, 1), hidden.best(1, 3), hidden.best(3, 1, 1)], [2, 0, 0])
        self.check_same([hidden.best(2, 2), hidden.best(0, 2, 2)], [0, 1])

    def test_rests_with_known_replies(self):
        for top, rival_top in ((2, 2), (3, 1), (1, 3)):
            for reply in replies_by_hand(top, rival_top):
                hidden = told(top, rival_top, *[("at", level, value) for level, value in enumerate(reply)])
                self.check_same([hidden.many(), hidden.low(), hidden.high()], [1, list(reply), list(reply)])
                player = Player([[9 if own == value else -own for own in range(top + 1)] for value in reply])
                for rival in rivals_by_hand(top, rival_top):
                    rests = [own for own, _ in rests_of_player(player, rival)]
                    self.check_same(hidden.rests(rival),
                                    {own: "sure" if own in rests else "never" for own in range(top + 1)})
                    self.check_same([hidden.least_rest(rival), hidden.greatest_rest(rival)],
                                    [(rests[0], rests[0]), (rests[-1], rests[-1])])

    def test_replies_without_lesser_answers_have_no_lesser_rests(self):
        for top, rival_top in ((2, 2), (3, 2), (2, 3)):
            replies = replies_by_hand(top, rival_top)
            for rival in rivals_by_hand(top, rival_top)[::2]:
                for one, other in itertools.product(replies, repeat=2):
                    if all(answer <= later for answer, later in zip(one, other)):
                        lower, upper = rests_by_hand(one, rival), rests_by_hand(other, rival)
                        self.assertTrue(lower[0] <= upper[0] and lower[-1] <= upper[-1])

    def test_rests_stand_in_ascending_order(self):
        self.check_same(list(Hidden(4, 2).rests([0, 0, 1, 1, 2])), [0, 1, 2, 3, 4])

    def test_rivals_as_tuples_and_not_modified(self):
        hidden, rival = told(2, 3, ("least", 1, 1), ("most", 2, 1)), [0, 1, 3]
        for call in (hidden.rests, hidden.least_rest, hidden.greatest_rest):
            self.check_same(call((0, 1, 3)), call(rival))
        self.check_same(rival, [0, 1, 3])


class TestErrors(HiddenTest):

    def test_words_that_are_none(self):
        hidden = told(2, 3, ("least", 1, 1))
        for word in ("", "at ", "AT", "above", "leas", "m", "at least", "open"):
            for level, value in ((1, 1), (9, 9), (-1, 0)):
                self.check_error(BadText, {"at": 0}, hidden.tell, (word, level, value))
                self.check_error(BadText, {"at": 0}, hidden.tell, [word, level, value])
        self.check_all(hidden, 2, 3, [("least", 1, 1)], [[0, 1, 3]])

    def test_levels_and_values_that_are_none(self):
        hidden = told(2, 3, ("least", 1, 1))
        for word in WORDS:
            for n in (-1, -4, 4, 7):
                for value in (0, 3, -1):
                    self.check_error(BadNumber, {"n": n}, hidden.tell, (word, n, value))
                    self.check_error(BadNumber, {"n": n}, hidden.says, n, value)
            for n in (-1, -3, 3, 6):
                self.check_error(BadNumber, {"n": n}, hidden.tell, (word, 3, n))
                self.check_error(BadNumber, {"n": n}, hidden.says, 3, n)
        self.check_all(hidden, 2, 3, [("least", 1, 1)], [[0, 1, 3]])

    def test_levels_to_ask_about_that_are_none(self):
        hidden = Hidden(2, 3)
        for levels, n in (((4,), 4), ((-1,), -1), ((0, 3, 5, -1), 5), ((1, -4, 9), -4), ((0, 0, 0, 4), 4)):
            self.check_error(BadNumber, {"n": n}, hidden.best, *levels)
        self.check_same(Hidden(1, 5).best(5), 0)

    def test_rivals_that_do_not_fit(self):
        hidden = Hidden(2, 3)
        for call in (hidden.rests, hidden.least_rest, hidden.greatest_rest):
            for rival in ([], [0], [0, 1], [0, 1, 1, 1], [9, 8], [-1] * 5):
                self.check_error(BadNumber, {"n": len(rival)}, call, rival)
                self.check_error(BadNumber, {"n": len(rival)}, call, tuple(rival))
            for rival, n in (([0, 1, 4], 4), ([-1, 0, 1], -1), ([1, 0, 3], 0), ([0, 3, 2], 2), ([3, 2, 9], 2),
                             ([2, 4, 1], 4), ([1, 1, 0], 0), ([0, -2, 7], -2), ([3, 3, -1], -1)):
                self.check_error(BadNumber, {"n": n}, call, rival)
            call([3, 3, 3])
            call([0, 0, 0])

    def test_nothing_to_undo(self):
        hidden = Hidden(2, 3)
        self.check_error(NothingToUndo, {}, hidden.undo)
        hidden.tell(("at", 0, 1))
        self.assertIs(hidden.tell(("at", 1, 0)), False)
        hidden.undo()
        self.check_error(NothingToUndo, {}, hidden.undo)
        self.check_all(hidden, 2, 3, [], [[0, 1, 3]])


if __name__ == "__main__":
    unittest.main()
