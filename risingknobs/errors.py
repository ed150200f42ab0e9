"""The errors of the program."""

# The messages tell no numbers: Python refuses to write very long ones.


class RiseError(ValueError):
    """What all errors of the program are."""


class BadNumber(RiseError):
    """A number, or a number of things, that does not fit."""

    def __init__(self, n):
        super().__init__("this number does not fit")
        self.n = n


class BadText(RiseError):
    """A text whose part or word at an index is not of the form."""

    def __init__(self, at):
        super().__init__("this text is not of the form")
        self.at = at


class BadOption(RiseError):
    """What is no option of the grid."""

    def __init__(self, option):
        super().__init__("this is no option of the grid")
        self.option = tuple(option)


class BadSetting(RiseError):
    """What is no setting, or not one that may stand there."""

    def __init__(self, n):
        super().__init__("this setting does not fit")
        self.n = n


class BadRegion(RiseError):
    """Two options that keep some options from being a region."""

    def __init__(self, first, second):
        super().__init__("these two options do not go together in the region")
        self.first = tuple(first)
        self.second = tuple(second)


class UnlikeGrids(RiseError):
    """Two grids, told by their tops, that should be equal."""

    def __init__(self, first, second):
        super().__init__("these grids are not equal")
        self.first = first
        self.second = second


class AlikeWorths(RiseError):
    """Two places at which worths are the same that should not be."""

    def __init__(self, first, second):
        super().__init__("these two worths are the same")
        self.first = tuple(first)
        self.second = tuple(second)


class NothingToShow(RiseError):
    """There is no example, as what it would show is not so."""

    def __init__(self):
        super().__init__("there is nothing to show")


class NothingToUndo(RiseError):
    """There is nothing that could be taken back."""

    def __init__(self):
        super().__init__("there is nothing to undo")
