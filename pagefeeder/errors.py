"""The refusals of the program."""


class FeedError(ValueError):
    """Any refusal."""


class BadBook(FeedError):
    """A number of sheets that no book has."""


class BadRule(FeedError):
    """No rule."""


class BadSize(FeedError):
    """A size that no stack has."""


class BadBlind(FeedError):
    """No rising tuple of pages of the book."""


class BadStack(FeedError):
    """No stack of sheets of the book."""


class Busy(FeedError):
    """Sheets wait yet."""


class NoSheet(FeedError):
    """Not so many sheets wait."""


class BadScan(FeedError):
    """The scan with this number is none, or is one too many."""

    def __init__(self, number):
        super().__init__(f"no scan at {number}")
        self.number = number


class BadReading(FeedError):
    """What a reading tells at this number is no place of a scan."""

    def __init__(self, number):
        super().__init__(f"no sheets of a scan at {number}")
        self.number = number


class BadRun(FeedError):
    """The run with this number is none, is one too many, or has no reading."""

    def __init__(self, number):
        super().__init__(f"no run at {number}")
        self.number = number


class BadText(FeedError):
    """The row with this number is not a written run, or is one too many."""

    def __init__(self, row):
        super().__init__(f"no run in row {row}")
        self.row = row
