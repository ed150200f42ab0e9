"""Stretches of one knob: whether the best levels rise in each of them."""

from risingknobs.counting import check_length, pairs
from risingknobs.crossing import stays
from risingknobs.errors import NothingToShow
from risingknobs.regions import box
from risingknobs.tables import table_rows


def check_one_knob(grid):
    """Raises BadNumber if a grid has not one knob."""
    check_length(grid.tops, 1)


def stretch(grid, low, high):
    """The region of all options from one level to another one."""
    return box(grid, (low,), (high,))


def stretches(grid):
    """The list of all stretches, by their least level and then by their greatest one."""
    check_one_knob(grid)
    return [stretch(grid, low, high) for low in range(len(grid)) for high in range(low, len(grid))]


def keeps(before, behind, low, high):
    """Whether high keeps its lead over low from one row of worths to a later one, if it has one in the stretch."""
    if before[high] < max(before[low:high]):
        return True
    return stays(before[high] - before[low], behind[high] - behind[low])


def stretch_witness(table):
    """The first (early, late, low, high) for which a table does not cross in stretches, or None."""
    check_one_knob(table.grid)
    told = table_rows(table)
    for early, late in pairs(table.settings):
        for low, high in pairs(len(table.grid)):
            if not keeps(told[early], told[late], low, high):
                return (early, late, low, high)
    return None


def crosses_in_stretches(table):
    """Whether a table crosses in stretches."""
    return stretch_witness(table) is None


def falling_stretch(table):
    """A stretch and two settings, the best options at which do not rise."""
    witness = stretch_witness(table)
    if witness is None:
        raise NothingToShow()
    # From low to high, high is one of the best at early, and low is none of
    # them, or high is none at late: in either case they do not rise.
    early, late, low, high = witness
    return (stretch(table.grid, low, high), early, late)


def peaks(table, setting):
    """The ascending list of the levels that are worth more than each level next to them."""
    check_one_knob(table.grid)
    row = table.row(setting)
    told = []
    for level, worth in enumerate(row):
        around = [*row[max(0, level - 1):level], *row[level + 1:level + 2]]
        if all([worth > other for other in around]):
            told.append(level)
    return told


def is_single_peaked(table, setting):
    """Whether the worths do not go down up to some level, and do not go up from it on."""
    check_one_knob(table.grid)
    row = table.row(setting)
    top = row.index(max(row))
    return row[:top] == sorted(row[:top]) and row[top:] == sorted(row[top:], reverse=True)
