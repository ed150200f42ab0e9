"""The best options of a region, and whether they climb with the setting."""

from risingknobs.counting import pairs
from risingknobs.grids import check_alike
from risingknobs.regions import rise


def worth_most(worths, options):
    """The list of those of some options that are worth most among them."""
    most = max([worths[option] for option in options])
    return [option for option in options if worths[option] == most]


def best(table, region, *, setting=0):
    """The ascending list of the options of a region that are worth most at a setting."""
    check_alike(table.grid, region.grid)
    return worth_most(table.worths(setting), region.options)


def bests(table, region):
    """The list of the lists of the best options of a region at all settings."""
    return [best(table, region, setting=setting) for setting in range(table.settings)]


# An option that all others are below comes last in ascending order, and one
# that is below all others comes first; so no other ones are looked at.


def top_best(table, region, *, setting=0):
    """The best option that all best ones are below, or None."""
    told = best(table, region, setting=setting)
    if all([table.grid.is_below(option, told[-1]) for option in told]):
        return told[-1]
    return None


def low_best(table, region, *, setting=0):
    """The best option that is below all best ones, or None."""
    told = best(table, region, setting=setting)
    if all([table.grid.is_below(told[0], option) for option in told]):
        return told[0]
    return None


def falling_settings(table, region):
    """The ascending list of the (early, late), from which the best options of a region do not rise."""
    told = bests(table, region)
    return [(early, late) for early, late in pairs(len(told)) if not rise(table.grid, told[early], told[late])]


def climbs(table, region):
    """Whether the best options of a region rise from each setting to each later one."""
    return len(falling_settings(table, region)) == 0


def kept_for(table, settings, options):
    """The list of the options that are kept for some settings in a row, and the number of the looks."""
    if len(settings) == 0:
        return ([], 0)
    middle = (len(settings) - 1) // 2
    kept = worth_most(table.worths(settings[middle]), options)[-1]
    lower = [option for option in options if table.grid.is_below(option, kept)]
    upper = [option for option in options if table.grid.is_below(kept, option)]
    earlier, looks = kept_for(table, settings[:middle], lower)
    later, more = kept_for(table, settings[middle + 1:], upper)
    return ([*earlier, kept, *later], looks + len(options) + more)


def halved(table, region):
    """The greatest best options at all settings, as they are found with few looks, and the number of the looks."""
    check_alike(table.grid, region.grid)
    return kept_for(table, list(range(table.settings)), region.options)
