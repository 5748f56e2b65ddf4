"""Books: which pages all runs surely show, the gaps, and the stacks that must be fed again."""

from pagefeeder.errors import BadRun, BadSize
from pagefeeder.readings import check_rule, filled
from pagefeeder.scans import back_page, check_book, check_runs, front_page


def sure_runs(sheets, rule, runs):
    """Each run with just the pages that its scans surely show."""
    check_book(sheets)
    check_rule(rule)
    check_runs(sheets, runs)
    found = []
    for number, run in enumerate(runs):
        # A page that a scan tells is the same by all readings, so filled leaves none that isn't sure.
        told = filled(sheets, rule, run)
        if told is None:
            raise BadRun(number)
        found.append(told)
    return found


def showings(sheets, rule, runs):
    """For each page (run, scan) of all scans that surely show it, rising."""
    sure = sure_runs(sheets, rule, runs)
    found = [[] for page in range(2 * sheets)]
    for number, run in enumerate(sure):
        for at, scan in enumerate(run):
            for page in scan:
                if page is not None:
                    found[page].append((number, at))
    return found


def shown_by(sheets, rule, runs):
    """For each page (run, scan) of the first scan that surely shows it, None if none does."""
    return [shown[0] if shown else None for shown in showings(sheets, rule, runs)]


def seen(sheets, rule, runs):
    """For each page how many scans surely show it."""
    return [len(shown) for shown in showings(sheets, rule, runs)]


def spans(numbers, joins):
    """Rising numbers as spans (first, last): each number joins the span ahead, or begins one."""
    found = []
    for number in numbers:
        if found and joins(found[-1], number):
            first, last = found[-1]
            found[-1] = (first, number)
        else:
            found.append((number, number))
    return found


def gaps(sheets, rule, runs):
    """(first, last) of all pages one behind the other that no scan surely shows."""
    unseen = [page for page, count in enumerate(seen(sheets, rule, runs)) if count == 0]
    return spans(unseen, lambda span, page: page == span[1] + 1)


def check_size(sheets, size):
    """Refuse a size that no stack of the book has."""
    if not 1 <= size <= sheets:
        raise BadSize(f"a stack has 1 to {sheets} sheets, not {size}")


def stacks(sheets, rule, runs, size):
    """(first, last) of the fewest stacks that hold every sheet with a page that isn't surely shown."""
    counts = seen(sheets, rule, runs)
    check_size(sheets, size)
    wanted = [sheet for sheet in range(sheets) if 0 in (counts[front_page(sheet)], counts[back_page(sheet)])]
    # Each stack as long as can be leaves the fewest sheets to the others, so the stacks are the fewest, too.
    return spans(wanted, lambda span, sheet: sheet < span[0] + size)
