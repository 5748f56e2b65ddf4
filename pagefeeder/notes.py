"""Runs as texts: a row for each run."""

from pagefeeder.errors import BadRun, BadText
from pagefeeder.scans import MOST_RUNS, MOST_SCANS

FIGURES = "0123456789"
UNREAD = "-"
NO_SCANS = "."


def written_page(page):
    """A page of a scan as a text."""
    return UNREAD if page is None else str(page)


def written_scan(scan):
    """A scan as a text."""
    return "/".join([written_page(page) for page in scan])


def written_run(run):
    """A run as a row."""
    return " ".join([written_scan(scan) for scan in run]) if run else NO_SCANS


def is_number(text):
    """Whether a text is a number of one or two figures without a needless 0."""
    if not all([sign in FIGURES for sign in text]):
        return False
    return len(text) == 1 or len(text) == 2 and text[0] != "0"


def is_written_scan(text):
    """Whether a text has the form of a scan."""
    pages = text.split("/")
    return len(pages) == 2 and all([page == UNREAD or is_number(page) for page in pages])


def is_written_run(row):
    """Whether a row has the form of a run."""
    if row == NO_SCANS:
        return True
    scans = row.split(" ")
    return len(scans) <= MOST_SCANS and all([is_written_scan(scan) for scan in scans])


def first_wrong(rows):
    """The number of the first row that is no written run, or is one too many; None if there is none."""
    for number, row in enumerate(rows):
        if number == MOST_RUNS or not is_written_run(row):
            return number
    return None


def written(runs):
    """Runs as a text."""
    rows = [written_run(run) for run in runs]
    # No book is told here: a run is one if what is written of it is read to the same.
    wrong = first_wrong(rows)
    if wrong is not None:
        raise BadRun(wrong)
    return "\n".join(rows)


def read_page(text):
    """The page of a scan that a text tells."""
    return None if text == UNREAD else int(text)


def read_scan(text):
    """The scan that a text tells."""
    front, back = text.split("/")
    return (read_page(front), read_page(back))


def read_run(row):
    """The run that a row tells."""
    return [] if row == NO_SCANS else [read_scan(scan) for scan in row.split(" ")]


def read(text):
    """The runs that a text tells."""
    rows = text.split("\n") if text else []
    wrong = first_wrong(rows)
    if wrong is not None:
        raise BadText(wrong)
    return [read_run(row) for row in rows]
