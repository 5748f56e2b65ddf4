"""Steps of a feeder, played one after the other."""

from pagefeeder.errors import FeedError
from pagefeeder.feeder import Feeder

REFUSED = "no"


def do_step(feeder, step):
    """Do one step, and tell what it tells."""
    word = step[0]
    if word == "put":
        return feeder.put(step[1], step[2])
    if word == "feed":
        return feeder.feed()
    if word == "twice":
        return feeder.twice()
    if word == "slip":
        return feeder.slip()
    return feeder.jam()


def try_step(feeder, step):
    """Do one step, and tell what it tells, or that it is refused."""
    try:
        return do_step(feeder, step)
    except FeedError:
        return REFUSED


def played(sheets, blind, steps):
    """(what each step tells, the Feeder that did them)."""
    feeder = Feeder(sheets, blind)
    told = [try_step(feeder, step) for step in steps]
    return (told, feeder)


def words_of_runs(steps):
    """The words of each run's steps behind its put."""
    # A row of its own ahead of the first put stays empty: without sheets all else is refused.
    rows = [[]]
    for step in steps:
        if step[0] == "put":
            rows.append([])
        else:
            rows[-1].append(step[0])
    return rows


def slips_between(words):
    """How many slips of a run have a scan ahead of them and one behind."""
    scans = [at for at, word in enumerate(words) if word in ("feed", "twice")]
    if not scans:
        return 0
    return words[scans[0] : scans[-1]].count("slip")


def troubles(steps):
    """The least rule that all runs of steps keep, none of them refused."""
    rows = words_of_runs(steps)
    doubles = max([words.count("twice") for words in rows])
    slips = max([slips_between(words) for words in rows])
    return (doubles, slips)
