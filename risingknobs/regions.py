"""Regions: sets of options with the lesser and the greater one of any two."""

from risingknobs.errors import BadNumber, BadRegion, BadText
from risingknobs.grids import Grid, bad_word, check_alike, levels_of

MOST_OPTIONS_TO_LIST = 9


def text_of(levels):
    """The text that tells some levels."""
    return " ".join([str(level) for level in levels])


def ascending(grid, options):
    """The tuple of some options of a grid in ascending order, each once."""
    told = [tuple(option) for option in options]
    if len(told) == 0:
        raise BadNumber(0)
    grid.check(told)
    return tuple([option for option in grid.options if option in told])


def open_pair(grid, options):
    """The first two of ascending options whose lesser or greater one is missing, or None."""
    for at, first in enumerate(options):
        for second in options[at + 1:]:
            if grid.lesser(first, second) not in options or grid.greater(first, second) not in options:
                return (first, second)
    return None


class Region:
    """The options of a grid that somebody may choose from."""

    def __init__(self, grid, options):
        own = ascending(grid, options)
        pair = open_pair(grid, own)
        if pair is not None:
            raise BadRegion(pair[0], pair[1])
        self.grid = grid
        self.options = own

    @classmethod
    def read(cls, text):
        """The region that a text tells."""
        parts = text.split("; ")
        for at, part in enumerate(parts):
            if bad_word(part) is not None:
                raise BadText(at)
        grid = Grid.read(parts[0])
        return cls(grid, [levels_of(part) for part in parts[1:]])

    def __str__(self):
        return "; ".join([text_of(levels) for levels in [self.grid.tops, *self.options]])

    def __eq__(self, other):
        return isinstance(other, Region) and self.grid == other.grid and self.options == other.options

    def __len__(self):
        return len(self.options)

    def __contains__(self, option):
        return tuple(option) in self.options

    def __iter__(self):
        return iter(self.options)

    def __and__(self, other):
        check_alike(self.grid, other.grid)
        return Region(self.grid, [option for option in self.options if option in other.options])

    # The least option has no level above that of another one, so it comes
    # first in ascending order; and the greatest one comes last.

    def least(self):
        """The option that is below all others."""
        return self.options[0]

    def greatest(self):
        """The option that all others are below."""
        return self.options[-1]


def widened(grid, options):
    """The tuple of some options, and of the lesser and the greater ones of any two of them."""
    made = []
    for first in options:
        for second in options:
            made.append(grid.lesser(first, second))
            made.append(grid.greater(first, second))
    return ascending(grid, made)


def hull(grid, options):
    """The region with the fewest options that has all the options of a list."""
    kept = ascending(grid, options)
    wider = widened(grid, kept)
    while len(wider) > len(kept):
        kept = wider
        wider = widened(grid, kept)
    return Region(grid, kept)


def box(grid, low, high):
    """The region of all options that low is below, and that are below high."""
    if not grid.is_below(low, high):
        raise BadRegion(low, high)
    between = [option for option in grid.options if grid.is_below(low, option) and grid.is_below(option, high)]
    return Region(grid, between)


def whole(grid):
    """The region of all options of a grid."""
    return Region(grid, grid.options)


def lies_under(first, second):
    """Whether the first region lies under the second one."""
    check_alike(first.grid, second.grid)
    return rise(first.grid, first.options, second.options)


def rise(grid, first, second):
    """Whether the first one of two lists of options lies under the second one."""
    lower = [tuple(option) for option in first]
    upper = [tuple(option) for option in second]
    grid.check(lower)
    grid.check(upper)
    for low in lower:
        for high in upper:
            if grid.lesser(low, high) not in lower or grid.greater(low, high) not in upper:
                return False
    return True


def choices(options, count):
    """The ascending list of all choices of some ascending options, each an ascending tuple."""
    if count == 0:
        return [()]
    return [(first, *rest) for at, first in enumerate(options) for rest in choices(options[at + 1:], count - 1)]


def all_regions(grid):
    """Goes through all regions of a grid, those with fewer options first."""
    if len(grid) > MOST_OPTIONS_TO_LIST:
        raise BadNumber(len(grid))
    for count in range(1, len(grid) + 1):
        for options in choices(grid.options, count):
            if open_pair(grid, options) is None:
                yield Region(grid, options)
