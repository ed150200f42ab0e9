"""Tables for the tests of what the document says over all tables, and what is so of them, worked out by hand."""

import itertools
import random

from risingknobs.grids import Grid
from risingknobs.regions import all_regions
from tests.helpers import lesser_by_hand, rise_by_hand

# A table is told here by its grid and its rows, so that nothing of the
# program's tables has part in what is worked out by hand.


def all_rows(grid, settings, worths):
    """All rows of a table with some worths."""
    flat = itertools.product(worths, repeat=settings * len(grid))
    return [[list(told[at:at + len(grid)]) for at in range(0, len(told), len(grid))] for told in flat]


def exhaustive():
    """All tables with small worths over some very small grids."""
    told = []
    for tops, settings, most in (((0,), 2, 2), ((2,), 1, 3), ((2,), 2, 2), ((1,), 3, 2), ((0, 1), 2, 2),
                                 ((1, 1), 1, 3), ((1, 1), 2, 1)):
        grid = Grid(*tops)
        told += [(grid, rows) for rows in all_rows(grid, settings, range(most + 1))]
    return told


def lifting_rows(grid, settings, draw):
    """Rows of a lifting table: a product of knobs and of the setting, less prices that go up and down."""
    prices = [[draw.randrange(-3, 4) for _ in range(top + 1)] for top in grid.tops]
    lifts, steps = draw.randrange(3), draw.randrange(3)
    shifts = [draw.randrange(-5, 6) for _ in range(settings)]
    return [[lifts * sum(one * other for one, other in itertools.combinations(option, 2))
             + steps * setting * sum(option) + shifts[setting]
             - sum(row[level] for row, level in zip(prices, option))
             for option in grid.options] for setting in range(settings)]


def stretched(rows, draw):
    """Rows with the same order of the worths at each setting; some differences are stretched."""
    told = []
    for row in rows:
        places = {}
        for worth in sorted(set(row)):
            places[worth] = (max(places.values()) if places else -2) + draw.choice([1, 1, 2, 9])
        told.append([places[worth] for worth in row])
    return told


def spoiled(rows, draw):
    """Rows in which one worth is another one."""
    told = [list(row) for row in rows]
    row = draw.choice(told)
    row[draw.randrange(len(row))] += draw.choice([-2, -1, 1, 2])
    return told


def drawn(tops, count):
    """Some tables over a grid, of one to five settings; the same ones each time."""
    draw, grid, told = random.Random(str(tops)), Grid(*tops), []
    for at in range(count):
        settings = 1 + at % 5
        risen = lifting_rows(grid, settings, draw)
        crossing = stretched(risen, draw)
        any_rows = [[draw.randrange(4) for _ in grid.options] for _ in range(settings)]
        told += [(grid, rows) for rows in (risen, crossing, spoiled(risen, draw), spoiled(crossing, draw), any_rows)]
    return told


def larger():
    """Some tables over the grids of up to nine options, most with more options than those of exhaustive."""
    told = []
    for tops, count in (((3,), 12), ((8,), 3), ((0, 3), 6), ((2, 1), 12), ((1, 2), 12), ((2, 2), 5),
                        ((1, 1, 1), 8), ((1, 0, 2), 8), ((0, 0, 0), 2), ((2, 1, 0), 6)):
        told += drawn(tops, count)
    return told


def worths_by_hand(grid, row):
    return dict(zip(grid.options, row))


def best_by_hand(grid, row, options):
    worths = worths_by_hand(grid, row)
    return tuple(option for option in options if all(worths[option] >= worths[other] for other in options))


def is_below_by_hand(first, second):
    return lesser_by_hand(first, second) == first


PAIRS = {}


def pairs_under(grid):
    """All pairs of regions of which the first one lies under the second one, as tuples of options."""
    if grid.tops not in PAIRS:
        told = [region.options for region in all_regions(grid)]
        PAIRS[grid.tops] = [(first, second) for first in told for second in told if rise_by_hand(first, second)]
    return PAIRS[grid.tops]


def is_fall_by_hand(grid, rows, first, second, early, late):
    """Whether the best options of a region at early do not lie under those of another one at late."""
    if not rise_by_hand(first, second):
        return False
    return not rise_by_hand(best_by_hand(grid, rows[early], first), best_by_hand(grid, rows[late], second))


def falls_by_hand(grid, rows):
    """Whether there are two regions and two settings that show that a table is not crossing."""
    known = {}

    def best(options, setting):
        if (options, setting) not in known:
            known[options, setting] = best_by_hand(grid, rows[setting], options)
        return known[options, setting]

    settings = [(early, late) for early in range(len(rows)) for late in range(early, len(rows))]
    return any(not rise_by_hand(best(first, early), best(second, late))
               for first, second in pairs_under(grid) for early, late in settings)
