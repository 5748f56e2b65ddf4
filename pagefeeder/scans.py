"""Books, scans and runs."""

from pagefeeder.errors import BadBook, BadRun, BadScan

MOST_SHEETS = 30
MOST_SCANS = 20
MOST_RUNS = 12


def front_page(sheet):
    """The page on the front of a sheet."""
    return 2 * sheet


def back_page(sheet):
    """The page on the back of a sheet."""
    return 2 * sheet + 1


def check_book(sheets):
    """Refuse a number of sheets that no book has."""
    if not 1 <= sheets <= MOST_SHEETS:
        raise BadBook(f"a book has 1 to {MOST_SHEETS} sheets, not {sheets}")


def is_front(sheets, page):
    """Whether a page is a front's of the book."""
    return 0 <= page < 2 * sheets and page % 2 == 0


def is_back(sheets, page):
    """Whether a page is a back's of the book."""
    return 0 <= page < 2 * sheets and page % 2 == 1


def is_scan(sheets, scan):
    """Whether a tuple of numbers and Nones is a scan of the book."""
    if len(scan) != 2:
        return False
    front, back = scan
    front_told = front is None or is_front(sheets, front)
    back_told = back is None or is_back(sheets, back)
    return front_told and back_told


def check_run(sheets, run):
    """Refuse the first scan of a run that is none, or is one too many."""
    for number, scan in enumerate(run):
        if number == MOST_SCANS or not is_scan(sheets, scan):
            raise BadScan(number)


def is_run(sheets, run):
    """Whether a list of tuples of numbers and Nones is a run of the book."""
    return len(run) <= MOST_SCANS and all([is_scan(sheets, scan) for scan in run])


def check_runs(sheets, runs):
    """Refuse the first of some runs that is none, or is one too many."""
    for number, run in enumerate(runs):
        if number == MOST_RUNS or not is_run(sheets, run):
            raise BadRun(number)
