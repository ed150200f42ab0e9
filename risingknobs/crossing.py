"""Crossing tables: the best options rise in all regions, and regions in which they do not."""

from risingknobs.best import best
from risingknobs.counting import pairs
from risingknobs.errors import BadSetting, NothingToShow
from risingknobs.grids import check_alike
from risingknobs.regions import Region, lies_under, rise


def stays(gain, later):
    """Whether the later gain is at least 0 if the first one is, and above 0 if the first one is."""
    if gain > 0:
        return later > 0
    return gain < 0 or later >= 0


def wavering_pair(grid, lower, upper):
    """The first x and y, of which x gains over the lesser one in the lower worths, and the greater one does not over y
    in the upper ones; or None."""
    for x in grid.options:
        for y in grid.options:
            gain = lower[x] - lower[grid.lesser(x, y)]
            if not stays(gain, upper[grid.greater(x, y)] - upper[y]):
                return (x, y)
    return None


def regions_between(grid, x, y):
    """The region of x and the lesser one of x and y, and that of y and the greater one, which it lies under."""
    return (Region(grid, [grid.lesser(x, y), x]), Region(grid, [y, grid.greater(x, y)]))


def knob_witness(table):
    """The first (setting, x, y) for which a table does not cross in its knobs, or None."""
    for setting in range(table.settings):
        worths = table.worths(setting)
        pair = wavering_pair(table.grid, worths, worths)
        if pair is not None:
            return (setting, pair[0], pair[1])
    return None


def pairs_below(grid):
    """The ascending list of all two different options of which the first one is below the second one."""
    return [(low, high) for low in grid.options for high in grid.options if low != high and grid.is_below(low, high)]


def setting_witness(table):
    """The first (early, late, low, high) for which a table does not cross in its settings, or None."""
    of_options = pairs_below(table.grid)
    told = [table.worths(setting) for setting in range(table.settings)]
    for early, late in pairs(table.settings):
        before, behind = told[early], told[late]
        for low, high in of_options:
            if not stays(before[high] - before[low], behind[high] - behind[low]):
                return (early, late, low, high)
    return None


def is_crossing(table):
    """Whether a table crosses in its knobs and in its settings."""
    return knob_witness(table) is None and setting_witness(table) is None


# If x and y witness against the knobs, the best ones of x and the lesser one
# do not lie under those of y and the greater one; and if low and high witness
# against the settings, neither do those of these two at the two settings.


def fall(table):
    """Two regions and two settings that show that a table is not crossing."""
    of_knobs = knob_witness(table)
    if of_knobs is not None:
        setting, x, y = of_knobs
        first, second = regions_between(table.grid, x, y)
        return (first, second, setting, setting)
    of_settings = setting_witness(table)
    if of_settings is None:
        raise NothingToShow()
    early, late, low, high = of_settings
    region = Region(table.grid, [low, high])
    return (region, region, early, late)


def is_fall(table, first, second, early, late):
    """Whether two regions and two settings show that a table is not crossing."""
    check_alike(table.grid, first.grid)
    check_alike(table.grid, second.grid)
    table.check_setting(early)
    table.check_setting(late)
    if late < early:
        raise BadSetting(late)
    if not lies_under(first, second):
        return False
    lower = best(table, first, setting=early)
    upper = best(table, second, setting=late)
    return not rise(table.grid, lower, upper)
