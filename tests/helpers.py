"""What several tests need."""

import itertools
import unittest

from risingknobs.errors import RiseError
from risingknobs.grids import Grid

ATTRIBUTES = ("n", "at", "option", "first", "second")


class ProgramTest(unittest.TestCase):
    """A test that can look at the errors and answers of a call."""

    def check_error(self, kind, attributes, call, *arguments):
        """The call raises this very kind of error, with these attributes and no others."""
        with self.assertRaises(RiseError) as caught:
            call(*arguments)
        error = caught.exception
        self.assertIs(type(error), kind)
        told = {name: getattr(error, name) for name in ATTRIBUTES if hasattr(error, name)}
        self.check_same(told, attributes)

    def check_same(self, told, expected):
        """The value is the expected one, of the same kinds all the way down."""
        self.assertEqual(repr(told), repr(expected))

    def check_unlike(self, first, second):
        """The two are not equal, and equality says so with True and False."""
        self.assertIs(first == second, False)
        self.assertIs(second == first, False)
        self.assertIs(first != second, True)

    def check_like(self, first, second):
        self.assertIs(first == second, True)
        self.assertIs(first != second, False)


def all_tops():
    """The tops of all grids."""
    told = []
    for knobs in (1, 2, 3):
        for tops in itertools.product(range(10), repeat=knobs):
            count = 1
            for top in tops:
                count *= top + 1
            if count <= 16:
                told.append(tops)
    return told


def small_grids():
    """Grids with one to three knobs and at most nine options."""
    return [Grid(0), Grid(2), Grid(8), Grid(0, 3), Grid(1, 1), Grid(1, 2), Grid(2, 1),
            Grid(3, 1), Grid(2, 2), Grid(0, 0, 0), Grid(1, 0, 2), Grid(1, 1, 1)]


def options_by_hand(tops):
    return sorted(itertools.product(*[range(top + 1) for top in tops]))


def lesser_by_hand(first, second):
    return tuple(min(pair) for pair in zip(first, second))


def greater_by_hand(first, second):
    return tuple(max(pair) for pair in zip(first, second))


def is_closed_by_hand(options):
    """Whether the options have, with any two of them, their lesser and their greater one."""
    return all(
        lesser_by_hand(first, second) in options and greater_by_hand(first, second) in options
        for first in options for second in options
    )


def subsets_by_hand(options):
    """All sets of at least one option, fewer options first, then in ascending order."""
    return [chosen for count in range(1, len(options) + 1) for chosen in itertools.combinations(options, count)]


def rise_by_hand(first, second):
    return all(lesser_by_hand(low, high) in first and greater_by_hand(low, high) in second
               for low in first for high in second)
