"""Lifting tables: crossing at all prices, and prices at which others are not."""

from risingknobs.counting import pairs
from risingknobs.crossing import fall
from risingknobs.errors import NothingToShow
from risingknobs.tables import single_price


def lift_together(grid, worths, option, one, other):
    """Whether two knobs lift one another at an option; True if one of them has no level more there."""
    first = grid.up(option, one)
    second = grid.up(option, other)
    if first is None or second is None:
        return True
    both = grid.up(first, other)
    return worths[both] - worths[second] >= worths[first] - worths[option]


def lift_witness(table):
    """The first (setting, option, one, other) at which two knobs do not lift one another, or None."""
    of_knobs = pairs(len(table.grid.tops))
    for setting in range(table.settings):
        worths = table.worths(setting)
        for option in table.grid.options:
            for one, other in of_knobs:
                if not lift_together(table.grid, worths, option, one, other):
                    return (setting, option, one, other)
    return None


def step_witness(table):
    """The first (setting, option, knob) at which a setting does not lift a knob, or None."""
    for setting in range(table.settings - 1):
        now = table.worths(setting)
        then = table.worths(setting + 1)
        for option in table.grid.options:
            for knob in range(len(table.grid.tops)):
                step = table.grid.up(option, knob)
                if step is not None and then[step] - then[option] < now[step] - now[option]:
                    return (setting, option, knob)
    return None


def is_lifting(table):
    """Whether all knobs lift one another, and all settings the knobs, everywhere."""
    return lift_witness(table) is None and step_witness(table) is None


def shrinking_step(table):
    """The (setting, option, knob) of a step that is worth less behind another knob or setting, or None."""
    of_knobs = lift_witness(table)
    if of_knobs is not None:
        return of_knobs[:3]
    return step_witness(table)


def step_price(table, setting, option, knob):
    """The prices that take from a step all that it is worth, and cost nothing at the other levels."""
    step = table.grid.up(option, knob)
    return single_price(table.grid, knob, step[knob], table(step, setting) - table(option, setting))


def price_fall(table):
    """Prices, and two regions and two settings that show that the table less the prices is not crossing."""
    place = shrinking_step(table)
    if place is None:
        raise NothingToShow()
    # At these prices the step makes no difference where it is worth more, and
    # a loss where it is worth less, so the table less them is not crossing.
    setting, option, knob = place
    prices = step_price(table, setting, option, knob)
    first, second, early, late = fall(table.less(prices))
    return (prices, first, second, early, late)
