"""Tables of what options are worth at settings, and prices of levels."""

from risingknobs.counting import check_length, check_size, first_unfit
from risingknobs.errors import BadNumber, BadSetting, BadText
from risingknobs.grids import Grid, check_alike

# Sums may become longer than what Python writes or reads as a whole, so that
# integers are written some digits at once, and read digit by digit.


def decimal(n):
    """The decimal notation of an integer."""
    if n < 0:
        return "-" + decimal(-n)
    chunks = []
    while n >= 10 ** 64:
        n, rest = divmod(n, 10 ** 64)
        chunks.append(str(rest).zfill(64))
    chunks.append(str(n))
    return "".join(reversed(chunks))


def is_decimal(word):
    """Whether a word is the decimal notation of an integer."""
    digits = word.removeprefix("-")
    if not (digits.isascii() and digits.isdigit()):
        return False
    return word == "0" or not digits.startswith("0")


def integer_of(word):
    """The integer that a word tells."""
    n = 0
    for digit in word.removeprefix("-"):
        n = n * 10 + int(digit)
    return -n if word.startswith("-") else n


def tells_row(text):
    """Whether a text consists of integers, separated by single blanks."""
    return all([is_decimal(word) for word in text.split(" ")])


def row_of(text):
    """The list of the integers that a text tells."""
    return [integer_of(word) for word in text.split(" ")]


def text_of_row(row):
    """The text that tells some integers."""
    return " ".join([decimal(n) for n in row])


def sums(first, second):
    """The list of the sums of the numbers of two rows."""
    return [one + other for one, other in zip(first, second)]


class Table:
    """What each option of a grid is worth at each setting."""

    def __init__(self, grid, rows):
        check_size(rows)
        for row in rows:
            check_length(row, len(grid))
        self.grid = grid
        self.settings = len(rows)
        self._rows = [list(row) for row in rows]

    @classmethod
    def read(cls, text):
        """The table that a text tells."""
        parts = text.split("; ")
        for at, part in enumerate(parts[1:], start=1):
            if not tells_row(part):
                raise BadText(at)
        grid = Grid.read(parts[0])
        return cls(grid, [row_of(part) for part in parts[1:]])

    def __str__(self):
        return "; ".join([str(self.grid), *[text_of_row(row) for row in self._rows]])

    def __eq__(self, other):
        return isinstance(other, Table) and self.grid == other.grid and self._rows == other._rows

    def __call__(self, option, setting=0):
        """The worth of an option at a setting."""
        self.grid.check([option])
        self.check_setting(setting)
        return self._rows[setting][self.grid.options.index(tuple(option))]

    def __add__(self, other):
        check_alike(self.grid, other.grid)
        if self.settings != other.settings:
            raise BadNumber(other.settings)
        return Table(self.grid, [sums(row, more) for row, more in zip(self._rows, other._rows)])

    def check_setting(self, setting):
        """Raises BadSetting if there is no such setting."""
        if not 0 <= setting < self.settings:
            raise BadSetting(setting)

    def row(self, setting):
        """The list of the worths of all options at a setting."""
        self.check_setting(setting)
        return list(self._rows[setting])

    def worths(self, setting):
        """The dictionary from the options to their worths at a setting."""
        return dict(zip(self.grid.options, self.row(setting)))

    def part(self, settings):
        """The table of some settings, told in ascending order."""
        if len(settings) == 0:
            raise BadNumber(0)
        at = first_unfit(settings, self.settings)
        if at is not None:
            raise BadSetting(settings[at])
        return Table(self.grid, [self.row(setting) for setting in settings])

    def less(self, prices):
        """The table in which each option is worth less by its price."""
        check_alike(self.grid, prices.grid)
        losses = [-prices(option) for option in self.grid.options]
        return Table(self.grid, [sums(row, losses) for row in self._rows])


def table_rows(table):
    """The list of the lists of the worths of all options at all settings."""
    return [table.row(setting) for setting in range(table.settings)]


class Prices:
    """What each level of each knob costs."""

    def __init__(self, grid, rows):
        check_length(rows, len(grid.tops))
        for row, top in zip(rows, grid.tops):
            check_length(row, top + 1)
        self.grid = grid
        self._rows = [list(row) for row in rows]

    def __eq__(self, other):
        return isinstance(other, Prices) and self.grid == other.grid and self._rows == other._rows

    def __call__(self, option):
        """The sum of the prices of the levels of an option."""
        self.grid.check([option])
        return sum([row[level] for row, level in zip(self._rows, option)])

    def rows(self):
        """The list with the list of the prices of its levels for each knob."""
        return [list(row) for row in self._rows]


def single_price(grid, knob, level, price):
    """The prices of which only that of one level of one knob is not 0."""
    rows = [[0 for _ in range(top + 1)] for top in grid.tops]
    rows[knob][level] = price
    return Prices(grid, rows)
