"""Readings of a run: which sheets each of its scans may be of.

A place is a tuple (first, last) of the sheets that one scan is of.
A state is a tuple (ahead, doubles, slips): the last sheet of the scan ahead,
None ahead of the first scan, and how many doubles and slips may come yet.
A move is a tuple (place, behind): the place of a scan, and the state behind it.
"""

from pagefeeder.errors import BadReading, BadRule
from pagefeeder.scans import back_page, check_book, check_run, front_page

MOST_TROUBLES = 3


def is_count(count):
    """Whether a rule may tell this count."""
    return isinstance(count, int) and 0 <= count <= MOST_TROUBLES


def check_rule(rule):
    """Refuse what is no rule."""
    # Any tuples and numbers may be handed in, a number alone, too.
    if not isinstance(rule, tuple) or len(rule) != 2 or not all([is_count(count) for count in rule]):
        raise BadRule(f"a rule is two counts of 0 to {MOST_TROUBLES}")


def check_asked(sheets, rule, run):
    """Refuse what is wrong of these, in the order in which they are handed in."""
    check_book(sheets)
    check_rule(rule)
    check_run(sheets, run)


def is_place(sheets, place):
    """Whether a tuple of numbers is one sheet twice, or two one behind the other."""
    if len(place) != 2:
        return False
    first, last = place
    return 0 <= first <= last < sheets and last - first <= 1


def check_reading(sheets, run, reading):
    """Refuse the first of a reading that is no place, or is one too many."""
    for number, place in enumerate(reading):
        if number == len(run) or not is_place(sheets, place):
            raise BadReading(number)


def first_state(rule):
    """The state ahead of the first scan."""
    doubles, slips = rule
    return (None, doubles, slips)


def state_behind(state, place):
    """The state behind a place that follows a state; None if it can't follow."""
    ahead, doubles, slips = state
    first, last = place
    # Only sheets between scans slip: those ahead of the first scan are free.
    slipped = 0 if ahead is None else first - ahead - 1
    doubles_left = doubles - (last - first)
    slips_left = slips - slipped
    if slipped < 0 or doubles_left < 0 or slips_left < 0:
        return None
    return (last, doubles_left, slips_left)


def shows(scan, place):
    """Whether each page that a scan tells is the one that it would be by a place."""
    front, back = scan
    first, last = place
    front_same = front is None or front == front_page(first)
    back_same = back is None or back == back_page(last)
    return front_same and back_same


def near_places(sheets, state):
    """All places that could follow a state, and maybe some that can't, rising."""
    ahead, doubles, slips = state
    # Every place of the book would do here, but most are too far off.
    low = 0 if ahead is None else ahead + 1
    high = sheets if ahead is None else min(sheets, low + slips + 1)
    pairs = [(first, last) for first in range(low, high) for last in (first, first + 1)]
    return [place for place in pairs if is_place(sheets, place)]


def moves(sheets, scan, state):
    """All moves by which a scan can follow a state, rising by their places."""
    found = []
    for place in near_places(sheets, state):
        behind = state_behind(state, place)
        if behind is not None and shows(scan, place):
            found.append((place, behind))
    return found


def reached_by(layer):
    """Each state that a move of a layer leads to, once."""
    return {behind: True for state in layer for place, behind in layer[state]}


def leading_on(layer, alive):
    """The layer without moves to states that are not alive, and states without moves."""
    kept = {}
    for state in layer:
        going = [(place, behind) for place, behind in layer[state] if behind in alive]
        if going:
            kept[state] = going
    return kept


def trails(sheets, rule, run):
    """A layer for each scan: the moves of all readings, by the states ahead of them.

    None if there is no reading.
    """
    layers = []
    alive = {first_state(rule): True}
    for scan in run:
        layer = {state: moves(sheets, scan, state) for state in alive}
        layers.append(layer)
        alive = reached_by(layer)
    kept = []
    for layer in reversed(layers):
        alive = leading_on(layer, alive)
        kept.append(alive)
    return kept[::-1] if alive else None


def fits(sheets, rule, run, reading):
    """Whether a list of places is a reading of the run."""
    check_asked(sheets, rule, run)
    check_reading(sheets, run, reading)
    if len(reading) < len(run):
        return False
    state = first_state(rule)
    for scan, place in zip(run, reading):
        state = state_behind(state, place)
        if state is None or not shows(scan, place):
            return False
    return True


def layer_places(layer):
    """All places of a layer's moves, rising."""
    return sorted({place for state in layer for place, behind in layer[state]})


def could(sheets, rule, run):
    """For each scan all places of any reading; None if there is no reading."""
    check_asked(sheets, rule, run)
    layers = trails(sheets, rule, run)
    if layers is None:
        return None
    return [layer_places(layer) for layer in layers]


def ways_behind(ways, layer):
    """How many ways lead to each state behind a layer."""
    more = {}
    for state in ways:
        for place, behind in layer[state]:
            more[behind] = more.get(behind, 0) + ways[state]
    return more


def how_many(sheets, rule, run):
    """How many readings the run has."""
    check_asked(sheets, rule, run)
    layers = trails(sheets, rule, run)
    if layers is None:
        return 0
    ways = {first_state(rule): 1}
    for layer in layers:
        ways = ways_behind(ways, layer)
    return sum(ways.values())


def least_reading(sheets, rule, run):
    """The first reading as lists ascend; None if there is none."""
    check_asked(sheets, rule, run)
    layers = trails(sheets, rule, run)
    if layers is None:
        return None
    reading = []
    state = first_state(rule)
    for layer in layers:
        place, state = layer[state][0]
        reading.append(place)
    return reading


def agreed(told, pages):
    """The one page that all pages are, else what was told."""
    return pages[0] if len(set(pages)) == 1 else told


def filled_scan(scan, places):
    """A scan with each page told that is the same by all its places."""
    front, back = scan
    fronts = [front_page(first) for first, last in places]
    backs = [back_page(last) for first, last in places]
    return (agreed(front, fronts), agreed(back, backs))


def filled(sheets, rule, run):
    """The run with each page told that is the same by all readings; None if there is none."""
    found = could(sheets, rule, run)
    if found is None:
        return None
    return [filled_scan(scan, places) for scan, places in zip(run, found)]


def rules_rising():
    """All rules, by their counts together, then by their doubles."""
    counts = list(range(MOST_TROUBLES + 1))
    rules = [(doubles, slips) for doubles in counts for slips in counts]
    return sorted(rules, key=lambda rule: (sum(rule), rule))


def least_rule(sheets, run):
    """The least rule by which the run has a reading; None if it has none by any."""
    check_book(sheets)
    check_run(sheets, run)
    for rule in rules_rising():
        if trails(sheets, rule, run) is not None:
            return rule
    return None
