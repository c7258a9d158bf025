"""The errors of the package. Each keeps its argument as an attribute."""


class PlaneError(ValueError):
    """Any error that the package documents."""


class BadRegion(PlaneError):
    """Rows that make no region: None, or the number of the first that is no line row."""

    def __init__(self, number):
        # A value may be too long to be written out, so no message names it.
        super().__init__("these rows make no region")
        self.number = number


class BadNumber(PlaneError):
    """A value that is not such a number as is asked for."""

    def __init__(self, value):
        super().__init__("this is not such a number as is asked for")
        self.value = value


class TooLarge(PlaneError):
    """More rows, or longer numbers, than the function takes."""

    def __init__(self, number):
        super().__init__("there is more of this than the function takes")
        self.number = number
