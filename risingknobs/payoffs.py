"""Payoffs behind signals: what levels are worth when only a signal of the state is seen."""

from risingknobs.best import bests, climbs
from risingknobs.counting import check_number
from risingknobs.crossing import setting_witness
from risingknobs.errors import BadNumber, NothingToShow
from risingknobs.grids import Grid
from risingknobs.regions import rise, whole
from risingknobs.signals import negative_minor
from risingknobs.stretches import check_one_knob
from risingknobs.tables import Table, table_rows


def crosses_in_state(payoff):
    """Whether a payoff crosses in its settings, the states."""
    check_one_knob(payoff.grid)
    return setting_witness(payoff) is None


def expected(payoff, signals):
    """The table of what the levels are worth behind the signals, which are its settings."""
    check_one_knob(payoff.grid)
    if payoff.settings != signals.states:
        raise BadNumber(payoff.settings)
    rows = table_rows(payoff)
    of_levels = [[row[level] for row in rows] for level in range(len(payoff.grid))]
    return Table(payoff.grid, [[signals.total(signal, values) for values in of_levels]
                               for signal in range(signals.count)])


def chosen(payoff, signals):
    """The list of the ascending lists of the levels that are worth most behind each signal."""
    table = expected(payoff, signals)
    return [[option[0] for option in told] for told in bests(table, whole(table.grid))]


def rises_behind(payoff, signals):
    """Whether the levels that are worth most rise from each signal to each later one."""
    table = expected(payoff, signals)
    return climbs(table, whole(table.grid))


def gains(signals, minor):
    """Values that cross, with totals above 0 and below 0 behind the two signals of a negative minor."""
    first, second, state, later = minor
    before, behind = signals.row(first), signals.row(second)
    # The two states alone give such totals; they count so much that the
    # others, which have the signs that the crossing asks for, do not matter.
    many = sum(before) + sum(behind)
    values = [-1 if at < later else 1 for at in range(signals.states)]
    values[state] = -many * (before[later] + behind[later])
    values[later] = many * (before[state] + behind[state])
    return values


def payoff_fall(signals):
    """A payoff that crosses in the state, and two signals behind which the levels that are worth most do not rise."""
    minor = negative_minor(signals)
    if minor is None:
        raise NothingToShow()
    payoff = Table(Grid(1), [[0, gain] for gain in gains(signals, minor)])
    return (payoff, minor[0], minor[1])


def is_payoff_fall(signals, payoff, early, late):
    """Whether a payoff crosses in the state, and the levels that are worth most do not rise from early to late."""
    told = bests(expected(payoff, signals), whole(payoff.grid))
    check_number(early, signals.count)
    check_number(late, signals.count)
    if late <= early:
        raise BadNumber(late)
    return crosses_in_state(payoff) and not rise(payoff.grid, told[early], told[late])
