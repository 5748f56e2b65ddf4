"""Readings told one by one, straight from the document's words, to test against."""

import functools
import itertools
import random

RULES = [(doubles, slips) for doubles in range(4) for slips in range(4)]


def all_places(sheets):
    single = [(k, k) for k in range(sheets)]
    double = [(k, k + 1) for k in range(sheets - 1)]
    return sorted(single + double)


def all_scans(sheets):
    fronts = [None] + [2 * k for k in range(sheets)]
    backs = [None] + [2 * k + 1 for k in range(sheets)]
    return [(front, back) for front in fronts for back in backs]


@functools.lru_cache(maxsize=None)
def ordered(sheets, many):
    """(list of places, its doubles, its slips) of all that go forward, ascending."""
    found = []
    for places in itertools.product(all_places(sheets), repeat=many):
        pairs = list(zip(places, places[1:]))
        if all(ahead[1] < behind[0] for ahead, behind in pairs):
            doubles = sum(1 for first, last in places if first != last)
            slips = sum(behind[0] - ahead[1] - 1 for ahead, behind in pairs)
            found.append((list(places), doubles, slips))
    return found


def pages(place):
    return (2 * place[0], 2 * place[1] + 1)


def told_by(run, places):
    """Whether the run tells no page but those of the places."""
    for scan, place in zip(run, places):
        for told, page in zip(scan, pages(place)):
            if told is not None and told != page:
                return False
    return True


def readings_by_rule(sheets, run):
    """For each rule all readings of the run, ascending."""
    matching = [row for row in ordered(sheets, len(run)) if told_by(run, row[0])]
    table = {}
    for most_doubles, most_slips in RULES:
        table[(most_doubles, most_slips)] = [
            places for places, doubles, slips in matching if doubles <= most_doubles and slips <= most_slips
        ]
    return table


def could_of(readings, many):
    if not readings:
        return None
    return [sorted({places[at] for places in readings}) for at in range(many)]


def filled_of(readings, run):
    if not readings:
        return None
    told = []
    for at, scan in enumerate(run):
        sides = []
        for side in (0, 1):
            same = {pages(places[at])[side] for places in readings}
            sides.append(same.pop() if len(same) == 1 else scan[side])
        told.append(tuple(sides))
    return told


def least_rule_of(table):
    having = [rule for rule in RULES if table[rule]]
    if not having:
        return None
    return min(having, key=lambda rule: (rule[0] + rule[1], rule[0]))


class Counted:
    """Readings counted instead of told, for runs that have too many of them.

    A state is (low, exact, doubles, slips): the first sheet that may come, whether to
    leave it out is a slip, and what is left of the rule.
    """

    def __init__(self, sheets, rule, run):
        self.fitting = [[place for place in all_places(sheets) if told_by([scan], [place])] for scan in run]
        self.begin = (0, False, rule[0], rule[1])
        self.known = {}

    def going_on(self, at, state):
        """(place, state behind it) of what the scan may be of, and leaves a reading."""
        low, exact, doubles, slips = state
        found = []
        for place in self.fitting[at]:
            first, last = place
            cost = first - low if exact else 0
            behind = (last + 1, True, doubles - (last - first), slips - cost)
            if first >= low and min(behind[2:]) >= 0 and self.count(at + 1, behind):
                found.append((place, behind))
        return found

    def count(self, at, state):
        if at == len(self.fitting):
            return 1
        if (at, state) not in self.known:
            self.known[(at, state)] = sum(self.count(at + 1, behind) for _, behind in self.going_on(at, state))
        return self.known[(at, state)]

    def how_many(self):
        return self.count(0, self.begin)

    def could(self):
        told = []
        states = {self.begin}
        for at in range(len(self.fitting)):
            steps = [step for state in states for step in self.going_on(at, state)]
            told.append(sorted({place for place, _ in steps}))
            states = {behind for _, behind in steps}
        return told

    def least(self):
        told = []
        state = self.begin
        for at in range(len(self.fitting)):
            place, state = self.going_on(at, state)[0]
            told.append(place)
        return told


def small_cases():
    """(sheets, run): all runs of tiny books, and a fixed choice of those of small ones."""
    for sheets in (1, 2, 3):
        for many in (0, 1, 2):
            for run in itertools.product(all_scans(sheets), repeat=many):
                yield sheets, list(run)
    for sheets, many in ((2, 3), (4, 2), (4, 3), (5, 3), (6, 3), (7, 3), (6, 4)):
        choice = random.Random(100 * sheets + many)
        rows = ordered(sheets, many)
        for _ in range(60):
            yield sheets, [choice.choice(all_scans(sheets)) for _ in range(many)]
            if rows:
                yield sheets, hidden(choice.choice(rows)[0], choice)


def hidden(places, choice):
    """The run of these places, about half of its pages unread."""
    return [tuple(page if choice.random() < 0.5 else None for page in pages(place)) for place in places]


def long_cases():
    """(sheets, run) of long runs that truly went through, and of some that could not."""
    choice = random.Random(20)
    for sheets, many in ((30, 20), (30, 17), (26, 20), (24, 20), (23, 20), (20, 20), (30, 12)):
        for _ in range(4):
            places = long_reading(sheets, many, choice)
            run = hidden(places, choice)
            yield sheets, run
            at = choice.randrange(many)
            yield sheets, run[:at] + [choice.choice(all_scans(sheets))] + run[at + 1 :]
            sparse = [scan if choice.random() < 0.2 else (None, None) for scan in run]
            yield sheets, sparse


def long_reading(sheets, many, choice):
    """Places of so many scans, with up to three doubles and slips where the book has room."""
    room = sheets - many
    doubles = min(3, room // 2)
    slips = min(3, room - doubles)
    double_at = choice.sample(range(many), doubles)
    slip_at = choice.sample(range(1, many), slips)
    sheet = choice.randrange(room - doubles - slips + 1)
    places = []
    for at in range(many):
        first = sheet + (1 if at in slip_at else 0)
        last = first + (1 if at in double_at else 0)
        places.append((first, last))
        sheet = last + 1
    return places
