"""Points 0.5 and 1.1: the errors."""

import unittest

from risingknobs import errors
from tests.helpers import ProgramTest

OF_ONE_NUMBER = (errors.BadNumber, errors.BadSetting)
OF_TWO_TUPLES = (errors.BadRegion, errors.AlikeWorths)
WITHOUT_ATTRIBUTES = (errors.NothingToShow, errors.NothingToUndo)
ALL = (*OF_ONE_NUMBER, errors.BadText, errors.BadOption, *OF_TWO_TUPLES, errors.UnlikeGrids, *WITHOUT_ATTRIBUTES)


def throw(kind, *arguments):
    raise kind(*arguments)


class TestErrors(ProgramTest):

    def test_all_stand_directly_below_rise_error(self):
        self.assertEqual(errors.RiseError.__bases__, (ValueError,))
        for kind in ALL:
            self.assertEqual(kind.__bases__, (errors.RiseError,), kind)
            self.assertEqual(kind.__module__, "risingknobs.errors")

    def test_numbers(self):
        for kind in OF_ONE_NUMBER:
            for n in (0, -1, 7, 10 ** 1000, 10 ** 5000):
                with self.assertRaises(kind) as caught:
                    throw(kind, n)
                self.assertTrue(caught.exception.n == n)
                self.assertIsInstance(str(caught.exception), str)

    def test_text(self):
        self.check_error(errors.BadText, {"at": 3}, throw, errors.BadText, 3)

    def test_option_is_kept_as_a_tuple(self):
        self.check_error(errors.BadOption, {"option": (1, 2)}, throw, errors.BadOption, (1, 2))
        self.check_error(errors.BadOption, {"option": (1, 2)}, throw, errors.BadOption, [1, 2])
        self.check_error(errors.BadOption, {"option": ()}, throw, errors.BadOption, [])

    def test_pairs_are_kept_as_tuples(self):
        for kind in OF_TWO_TUPLES:
            for first, second in (((0, 1), (1, 0)), ([0, 1], [1, 0]), ((0, 1), [1, 0]), ([0, 1], (1, 0))):
                self.check_error(kind, {"first": (0, 1), "second": (1, 0)}, throw, kind, first, second)

    def test_later_changes_of_a_list_do_not_reach_an_error(self):
        first, second = [0, 1], [1, 0]
        kept = [errors.BadOption(first)] + [kind(first, second) for kind in OF_TWO_TUPLES]
        first.append(5)
        second[0] = 7
        self.check_same(kept[0].option, (0, 1))
        for error in kept[1:]:
            self.check_same([error.first, error.second], [(0, 1), (1, 0)])

    def test_unlike_grids(self):
        told = {"first": (1, 2), "second": (3,)}
        self.check_error(errors.UnlikeGrids, told, throw, errors.UnlikeGrids, (1, 2), (3,))

    def test_errors_without_attributes(self):
        for kind in WITHOUT_ATTRIBUTES:
            self.check_error(kind, {}, throw, kind)
            with self.assertRaises(TypeError):
                kind(1)


if __name__ == "__main__":
    unittest.main()
