"""A feeder that takes in the sheets of a book."""

from pagefeeder.errors import BadBlind, BadStack, Busy, NoSheet
from pagefeeder.scans import back_page, check_book, front_page, is_back, is_front


def check_blind(sheets, blind):
    """Refuse what is no rising tuple of pages of the book."""
    inside = all([is_front(sheets, page) or is_back(sheets, page) for page in blind])
    rising = all([ahead < behind for ahead, behind in zip(blind, blind[1:])])
    if not inside or not rising:
        raise BadBlind("the pages that can't be read are pages of the book, rising")


class Feeder:
    """Takes in sheets, and keeps the runs of their scans."""

    def __init__(self, sheets, blind):
        check_book(sheets)
        check_blind(sheets, blind)
        self.sheets = sheets
        self.blind = list(blind)
        self.waiting = []
        self.scanned = []
        self.finished = []

    def put(self, low, high):
        """Lay the sheets from a first to a last one."""
        if not 0 <= low <= high < self.sheets:
            raise BadStack(f"no sheets from {low} to {high}")
        if self.waiting:
            raise Busy("sheets wait yet")
        self.waiting = list(range(low, high + 1))

    def feed(self):
        """Take in the next sheet, and tell the scan."""
        return self.take_in(1)

    def twice(self):
        """Take in the next two sheets at once, and tell the scan."""
        return self.take_in(2)

    def slip(self):
        """Let the next sheet through unread."""
        self.take_away(1)
        self.finish_run()

    def jam(self):
        """Take away all sheets that wait."""
        self.need(1)
        self.take_away(len(self.waiting))
        self.finish_run()

    def waits(self):
        """(first, last) of the sheets that wait, None if none does."""
        if not self.waiting:
            return None
        return (self.waiting[0], self.waiting[-1])

    def run(self):
        """The scans of the run that goes on."""
        return list(self.scanned)

    def runs(self):
        """All runs that are over, but those without scans."""
        return [list(scans) for scans in self.finished]

    def need(self, many):
        """Refuse if not so many sheets wait."""
        if len(self.waiting) < many:
            raise NoSheet(f"not {many} to take, {len(self.waiting)} waiting")

    def take_away(self, many):
        """Take away the next so many sheets, and tell them."""
        self.need(many)
        taken = self.waiting[:many]
        self.waiting = self.waiting[many:]
        return taken

    def take_in(self, many):
        """Take in the next so many sheets at once, and tell the scan."""
        taken = self.take_away(many)
        scan = (self.told(front_page(taken[0])), self.told(back_page(taken[-1])))
        self.scanned.append(scan)
        self.finish_run()
        return scan

    def told(self, page):
        """The page as a scan tells it."""
        return None if page in self.blind else page

    def finish_run(self):
        """Keep the run as one that is over, if no sheet waits any more."""
        if self.waiting:
            return
        if self.scanned:
            self.finished.append(self.scanned)
        self.scanned = []
