"""What is counted from 0 on: checks of such numbers, and of how many there are."""

from risingknobs.errors import BadNumber

MOST_ROWS = 5


def check_number(n, count):
    """Raises BadNumber if a number is none of those from 0 on that are so many."""
    if not 0 <= n < count:
        raise BadNumber(n)


def check_length(row, length):
    """Raises BadNumber with the length of a row if it is not the one that is told."""
    if len(row) != length:
        raise BadNumber(len(row))


def check_size(rows):
    """Raises BadNumber with the number of some rows, or of the items of a row, if it is not from 1 to 5."""
    if not 1 <= len(rows) <= MOST_ROWS:
        raise BadNumber(len(rows))


def first_unfit(numbers, count):
    """The place of the first number that is none of so many, or not above the one ahead of it, or None."""
    ahead = -1
    for at, n in enumerate(numbers):
        if not ahead < n < count:
            return at
        ahead = n
    return None


def pairs(count):
    """The ascending list of all pairs of so many numbers from 0 on, the lower one first."""
    return [(n, later) for n in range(count) for later in range(n + 1, count)]
