"""What the document tells, told one by one straight from its words, to test against."""

import functools
import itertools
import random

RULES = [(doubles, slips) for doubles in range(4) for slips in range(4)]


def all_places(sheets):
    single = [(k, k) for k in range(sheets)]
    double = [(k, k + 1) for k in range(sheets - 1)]
    return sorted(single + double)


def all_scans(sheets):
    fronts = [None] + [2 * k for k in range(sheets)]
    backs = [None] + [2 * k + 1 for k in range(sheets)]
    return [(front, back) for front in fronts for back in backs]


@functools.lru_cache(maxsize=None)
def ordered(sheets, many):
    """(list of places, its doubles, its slips) of all that go forward, ascending."""
    found = []
    for places in itertools.product(all_places(sheets), repeat=many):
        pairs = list(zip(places, places[1:]))
        if all(ahead[1] < behind[0] for ahead, behind in pairs):
            doubles = sum(1 for first, last in places if first != last)
            slips = sum(behind[0] - ahead[1] - 1 for ahead, behind in pairs)
            found.append((list(places), doubles, slips))
    return found


def pages(place):
    return (2 * place[0], 2 * place[1] + 1)


def told_by(run, places):
    """Whether the run tells no page but those of the places."""
    for scan, place in zip(run, places):
        for told, page in zip(scan, pages(place)):
            if told is not None and told != page:
                return False
    return True


def readings_by_rule(sheets, run):
    """For each rule all readings of the run, ascending."""
    matching = [row for row in ordered(sheets, len(run)) if told_by(run, row[0])]
    table = {}
    for most_doubles, most_slips in RULES:
        table[(most_doubles, most_slips)] = [
            places for places, doubles, slips in matching if doubles <= most_doubles and slips <= most_slips
        ]
    return table


def could_of(readings, many):
    if not readings:
        return None
    return [sorted({places[at] for places in readings}) for at in range(many)]


def filled_of(readings, run):
    if not readings:
        return None
    told = []
    for at, scan in enumerate(run):
        sides = []
        for side in (0, 1):
            same = {pages(places[at])[side] for places in readings}
            sides.append(same.pop() if len(same) == 1 else scan[side])
        told.append(tuple(sides))
    return told


def least_rule_of(table):
    having = [rule for rule in RULES if table[rule]]
    if not having:
        return None
    return min(having, key=lambda rule: (rule[0] + rule[1], rule[0]))


class Counted:
    """Readings counted instead of told, for runs that have too many of them.

    A state is (low, exact, doubles, slips): the first sheet that may come, whether to
    leave it out is a slip, and what is left of the rule.
    """

    def __init__(self, sheets, rule, run):
        self.fitting = [[place for place in all_places(sheets) if told_by([scan], [place])] for scan in run]
        self.begin = (0, False, rule[0], rule[1])
        self.known = {}

    def going_on(self, at, state):
        """(place, state behind it) of what the scan may be of, and leaves a reading."""
        low, exact, doubles, slips = state
        found = []
        for place in self.fitting[at]:
            first, last = place
            cost = first - low if exact else 0
            behind = (last + 1, True, doubles - (last - first), slips - cost)
            if first >= low and min(behind[2:]) >= 0 and self.count(at + 1, behind):
                found.append((place, behind))
        return found

    def count(self, at, state):
        if at == len(self.fitting):
            return 1
        if (at, state) not in self.known:
            self.known[(at, state)] = sum(self.count(at + 1, behind) for _, behind in self.going_on(at, state))
        return self.known[(at, state)]

    def how_many(self):
        return self.count(0, self.begin)

    def could(self):
        told = []
        states = {self.begin}
        for at in range(len(self.fitting)):
            steps = [step for state in states for step in self.going_on(at, state)]
            told.append(sorted({place for place, _ in steps}))
            states = {behind for _, behind in steps}
        return told

    def least(self):
        told = []
        state = self.begin
        for at in range(len(self.fitting)):
            place, state = self.going_on(at, state)[0]
            told.append(place)
        return told


def small_cases():
    """(sheets, run): all runs of tiny books, and a fixed choice of those of small ones."""
    for sheets in (1, 2, 3):
        for many in (0, 1, 2):
            for run in itertools.product(all_scans(sheets), repeat=many):
                yield sheets, list(run)
    for sheets, many in ((2, 3), (4, 2), (4, 3), (5, 3), (6, 3), (7, 3), (6, 4)):
        choice = random.Random(100 * sheets + many)
        rows = ordered(sheets, many)
        for _ in range(60):
            yield sheets, [choice.choice(all_scans(sheets)) for _ in range(many)]
            if rows:
                yield sheets, hidden(choice.choice(rows)[0], choice)


def hidden(places, choice):
    """The run of these places, about half of its pages unread."""
    return [tuple(page if choice.random() < 0.5 else None for page in pages(place)) for place in places]


def long_cases():
    """(sheets, run) of long runs that truly went through, and of some that could not."""
    choice = random.Random(20)
    for sheets, many in ((30, 20), (30, 17), (26, 20), (24, 20), (23, 20), (20, 20), (30, 12)):
        for _ in range(4):
            places = long_reading(sheets, many, choice)
            run = hidden(places, choice)
            yield sheets, run
            at = choice.randrange(many)
            yield sheets, run[:at] + [choice.choice(all_scans(sheets))] + run[at + 1 :]
            sparse = [scan if choice.random() < 0.2 else (None, None) for scan in run]
            yield sheets, sparse


def long_reading(sheets, many, choice):
    """Places of so many scans, with up to three doubles and slips where the book has room."""
    room = sheets - many
    doubles = min(3, room // 2)
    slips = min(3, room - doubles)
    double_at = choice.sample(range(many), doubles)
    slip_at = choice.sample(range(1, many), slips)
    sheet = choice.randrange(room - doubles - slips + 1)
    places = []
    for at in range(many):
        first = sheet + (1 if at in slip_at else 0)
        last = first + (1 if at in double_at else 0)
        places.append((first, last))
        sheet = last + 1
    return places


def shown_of(sheets, rule, runs):
    """For each page (run, scan) of all scans that surely show it, by all readings."""
    table = [[] for _ in range(2 * sheets)]
    for number, run in enumerate(runs):
        readings = readings_by_rule(sheets, run)[rule]
        for at in range(len(run)):
            for side in (0, 1):
                found = {pages(places[at])[side] for places in readings}
                if len(found) == 1:
                    table[found.pop()].append((number, at))
    return table


def gaps_of(counts):
    """All (first, last) of pages that none shows, with none such ahead and none behind."""
    found = []
    for first in range(len(counts)):
        for last in range(first, len(counts)):
            inside = not any(counts[first : last + 1])
            begins = first == 0 or counts[first - 1] > 0
            ends = last == len(counts) - 1 or counts[last + 1] > 0
            if inside and begins and ends:
                found.append((first, last))
    return found


def wanted_of(counts):
    """The sheets of which a page isn't shown."""
    return [sheet for sheet in range(len(counts) // 2) if 0 in counts[2 * sheet : 2 * sheet + 2]]


def all_layings(wanted, size, many):
    """All ways to lay so many stacks that hold every wanted sheet, no sheet in two of them."""
    ends = [(first, last) for first in wanted for last in wanted if first <= last < first + size]
    for laid in itertools.combinations(sorted(ends), many):
        held = [sheet for first, last in laid for sheet in range(first, last + 1)]
        if len(held) == len(set(held)) and set(wanted) <= set(held):
            yield list(laid)


def stacks_of(counts, size):
    """Of the layings with the fewest stacks the one with the longest first, then second, and so on."""
    wanted = wanted_of(counts)
    for many in range(len(wanted) + 1):
        layings = list(all_layings(wanted, size, many))
        if layings:
            return max(layings, key=lambda laid: [last - first for first, last in laid])


FRESH = ((), (), ())


def model_step(sheets, blind, state, step):
    """(state behind it, what it tells or the name of its refusal): a feeder without a Feeder.

    A state is (sheets that wait, places of the run that goes on, places of each run that is over).
    """
    waiting, going, over = state
    word = step[0]
    if word == "put":
        low, high = step[1:]
        if low < 0 or high >= sheets or low > high:
            return state, "BadStack"
        if waiting:
            return state, "Busy"
        return (tuple(range(low, high + 1)), (), over), None
    many = {"feed": 1, "twice": 2, "slip": 1, "jam": max(1, len(waiting))}[word]
    if len(waiting) < many:
        return state, "NoSheet"
    told = None
    if word in ("feed", "twice"):
        place = (waiting[0], waiting[many - 1])
        going += (place,)
        told = model_scan(blind, place)
    waiting = waiting[many:]
    if not waiting:
        over += (going,) if going else ()
        going = ()
    return (waiting, going, over), told


def model_scan(blind, place):
    return tuple(None if page in blind else page for page in pages(place))


def model_tells(blind, state):
    """What waits, run and runs tell in a state."""
    waiting, going, over = state
    return (
        (waiting[0], waiting[-1]) if waiting else None,
        [model_scan(blind, place) for place in going],
        [[model_scan(blind, place) for place in places] for places in over],
    )


def feeder_tells(feeder):
    return (feeder.waits(), feeder.run(), feeder.runs())


def call_step(feeder, step):
    """Do a step of a Feeder by its own method."""
    return getattr(feeder, step[0])(*step[1:])


def random_blind(choice, sheets, part):
    return tuple(page for page in range(2 * sheets) if choice.random() < part)


def careful_steps(choice, low, high, rule):
    """Steps of one run that keep a rule; slips ahead of the first scan are free, those behind aren't asked for."""
    steps = [("put", low, high)]
    doubles, slips = rule
    left = high - low + 1
    scanned = False
    while left:
        words = ["feed", "feed", "feed"]
        if doubles and left > 1:
            words.append("twice")
        if slips or not scanned:
            words.append("slip")
        if choice.random() < 0.05:
            words.append("jam")
        word = choice.choice(words)
        steps.append((word,))
        scanned = scanned or word in ("feed", "twice")
        doubles -= word == "twice"
        slips -= word == "slip" and scanned
        left -= {"feed": 1, "twice": 2, "slip": 1, "jam": left}[word]
    return steps


def careful_play(choice, sheets, rule, most_runs, most_sheets):
    """Steps of several runs, each with no more doubles and slips than a rule tells."""
    steps = []
    for _ in range(choice.randrange(most_runs + 1)):
        low = choice.randrange(sheets)
        high = min(sheets - 1, low + choice.randrange(most_sheets))
        steps += careful_steps(choice, low, high, rule)
    return steps
