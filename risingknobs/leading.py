"""Two tables: the best options of one of them lie under those of the one that leads it."""

from risingknobs.crossing import regions_between, wavering_pair
from risingknobs.errors import BadNumber, NothingToShow
from risingknobs.grids import check_alike


def lead_witness(first, second, *, setting=0, behind=0):
    """The first (x, y) for which the first table does not lead the second one, or None."""
    check_alike(first.grid, second.grid)
    upper = first.worths(setting)
    lower = second.worths(behind)
    return wavering_pair(first.grid, lower, upper)


def leads(first, second, *, setting=0, behind=0):
    """Whether the first table, at a setting, leads the second one at its own."""
    return lead_witness(first, second, setting=setting, behind=behind) is None


def lead_fall(first, second, *, setting=0, behind=0):
    """Two regions that show that the first table does not lead the second one."""
    pair = lead_witness(first, second, setting=setting, behind=behind)
    if pair is None:
        raise NothingToShow()
    return regions_between(first.grid, pair[0], pair[1])


def chain(*tables):
    """Whether each table leads itself, and the one directly ahead of it, at the setting 0."""
    if len(tables) == 0:
        raise BadNumber(0)
    for table in tables:
        check_alike(tables[0].grid, table.grid)
    selves = [leads(table, table) for table in tables]
    steps = [leads(table, ahead) for ahead, table in zip(tables, tables[1:])]
    return all([*selves, *steps])
