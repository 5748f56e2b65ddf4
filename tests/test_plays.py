import copy
import itertools
import random
import unittest

from pagefeeder.errors import BadBlind, BadBook, FeedError
from pagefeeder.feeder import Feeder
from pagefeeder.plays import played, troubles
from tests import brute

FEED, TWICE, SLIP, JAM = ("feed",), ("twice",), ("slip",), ("jam",)


def told_by_hand(feeder, step):
    try:
        return brute.call_step(feeder, step)
    except FeedError:
        return "no"


class PlayedTest(unittest.TestCase):
    def test_no_steps(self):
        told, feeder = played(3, (), [])
        self.assertEqual(told, [])
        self.assertEqual(brute.feeder_tells(feeder), (None, [], []))
        feeder.put(0, 2)
        self.assertEqual(feeder.feed(), (0, 1))

    def test_what_each_step_tells(self):
        steps = [("put", 0, 5), FEED, TWICE, SLIP, FEED, JAM]
        told, feeder = played(6, (1,), steps)
        self.assertEqual(told, [None, (0, None), (2, 5), None, (8, 9), None])
        self.assertEqual(brute.feeder_tells(feeder), (None, [], [[(0, None), (2, 5), (8, 9)]]))

    def test_refused_steps(self):
        steps = [FEED, TWICE, SLIP, JAM, ("put", 1, 0), ("put", 0, 3), ("put", -1, 0)]
        steps += [("put", 1, 1), TWICE, ("put", 0, 0), FEED, TWICE]
        told, feeder = played(3, (), steps)
        self.assertEqual(told, ["no"] * 7 + [None, "no", "no", (2, 3), "no"])
        self.assertEqual(feeder.runs(), [[(2, 3)]])

    def test_the_feeder_goes_on(self):
        told, feeder = played(4, (), [("put", 0, 3), FEED])
        self.assertEqual(brute.feeder_tells(feeder), ((1, 3), [(0, 1)], []))
        self.assertEqual(feeder.twice(), (2, 5))
        self.assertEqual(told, [None, (0, 1)])
        feeder.feed()
        self.assertEqual(feeder.runs(), [[(0, 1), (2, 5), (6, 7)]])

    def test_kinds(self):
        told = played(4, (), [("put", 0, 3), FEED])
        self.assertIs(told.__class__, tuple)
        self.assertEqual(len(told), 2)
        self.assertIs(told[0].__class__, list)
        self.assertIs(told[1].__class__, Feeder)

    def test_all_orders_of_few_steps(self):
        for many in range(5):
            for steps in itertools.product((("put", 0, 2), ("put", 1, 3), FEED, TWICE, SLIP, JAM), repeat=many):
                self.compare(3, (3,), list(steps), [("put", 0, 2), FEED, FEED])

    def test_many_steps(self):
        choice = random.Random(9)
        for _ in range(100):
            sheets = choice.choice((1, 2, 5, 30))
            blind = brute.random_blind(choice, sheets, 0.3)
            words = [("put", choice.randrange(-1, sheets + 1), choice.randrange(sheets + 1)) for _ in range(9)]
            words += [FEED] * 6 + [TWICE, SLIP] * 3 + [JAM]
            steps = [choice.choice(words) for _ in range(60)]
            self.compare(sheets, blind, steps[:40], steps[40:])

    def compare(self, sheets, blind, steps, more):
        """Against a Feeder that is handed the steps itself, and more steps behind."""
        other = Feeder(sheets, blind)
        expected = [told_by_hand(other, step) for step in steps]
        told, feeder = played(sheets, blind, steps)
        self.assertEqual(told, expected)
        self.assertEqual(brute.feeder_tells(feeder), brute.feeder_tells(other))
        for step in more:
            self.assertEqual(told_by_hand(feeder, step), told_by_hand(other, step))
            self.assertEqual(brute.feeder_tells(feeder), brute.feeder_tells(other))

    def test_books_and_blind_pages(self):
        for sheets in (-1, 0, 31):
            for blind in ((), (0,), (1, 0)):
                with self.assertRaises(BadBook):
                    played(sheets, blind, [FEED])
        for blind in ((-1,), (6,), (1, 0), (1, 1)):
            for steps in ([], [FEED], [("put", 0, 0)]):
                with self.assertRaises(BadBlind):
                    played(3, blind, steps)
        for sheets in (1, 30):
            played(sheets, (0, 2 * sheets - 1), [])

    def test_what_is_handed_in_stays_as_it_was(self):
        steps = [("put", 0, 2), FEED, ("put", 0, 0), TWICE, JAM]
        kept = copy.deepcopy(steps)
        told, feeder = played(3, (), steps)
        self.assertEqual(steps, kept)
        steps.clear()
        self.assertEqual(told, [None, (0, 1), "no", (2, 5), "no"])
        self.assertEqual(feeder.runs(), [[(0, 1), (2, 5)]])

    def test_changing_what_was_told_changes_nothing(self):
        steps = [("put", 0, 2), FEED]
        told, feeder = played(3, (), steps)
        told.clear()
        self.assertEqual(brute.feeder_tells(feeder), ((1, 2), [(0, 1)], []))
        again, other = played(3, (), steps)
        self.assertEqual(again, [None, (0, 1)])
        feeder.jam()
        self.assertEqual(brute.feeder_tells(other), ((1, 2), [(0, 1)], []))


class TroublesTest(unittest.TestCase):
    def test_none(self):
        self.assertEqual(troubles([]), (0, 0))
        self.assertEqual(troubles([("put", 0, 5)]), (0, 0))
        self.assertEqual(troubles([("put", 0, 1), FEED, FEED]), (0, 0))
        self.assertEqual(troubles([("put", 0, 1), JAM, ("put", 0, 0), SLIP]), (0, 0))

    def test_twice(self):
        self.assertEqual(troubles([("put", 0, 1), TWICE]), (1, 0))
        self.assertEqual(troubles([("put", 0, 4), TWICE, FEED, TWICE]), (2, 0))

    def test_slips_ahead_between_and_behind(self):
        self.assertEqual(troubles([("put", 0, 3), SLIP, SLIP, FEED, FEED]), (0, 0))
        self.assertEqual(troubles([("put", 0, 3), FEED, SLIP, SLIP, FEED]), (0, 2))
        self.assertEqual(troubles([("put", 0, 3), FEED, FEED, SLIP, SLIP]), (0, 0))
        self.assertEqual(troubles([("put", 0, 7), SLIP, FEED, SLIP, TWICE, SLIP, FEED, SLIP]), (1, 2))
        self.assertEqual(troubles([("put", 0, 5), TWICE, SLIP, SLIP, TWICE]), (2, 2))

    def test_jams(self):
        self.assertEqual(troubles([("put", 0, 9), FEED, SLIP, JAM]), (0, 0))
        self.assertEqual(troubles([("put", 0, 9), FEED, SLIP, FEED, SLIP, JAM]), (0, 1))
        self.assertEqual(troubles([("put", 0, 9), TWICE, JAM, ("put", 0, 9), FEED, JAM]), (1, 0))

    def test_slips_of_two_runs_stay_apart(self):
        self.assertEqual(troubles([("put", 0, 1), FEED, SLIP, ("put", 0, 1), SLIP, FEED]), (0, 0))
        self.assertEqual(troubles([("put", 0, 2), FEED, SLIP, FEED, ("put", 0, 2), FEED, SLIP, FEED]), (0, 1))

    def test_the_most_of_different_runs(self):
        steps = [("put", 0, 6), FEED, SLIP, SLIP, SLIP, FEED, JAM, ("put", 0, 3), TWICE, TWICE, ("put", 0, 0), FEED]
        self.assertEqual(troubles(steps), (2, 3))

    def test_a_run_that_goes_on_yet(self):
        self.assertEqual(troubles([("put", 0, 9), FEED, SLIP]), (0, 0))
        self.assertEqual(troubles([("put", 0, 9), FEED, SLIP, FEED]), (0, 1))
        self.assertEqual(troubles([("put", 0, 0), FEED, ("put", 0, 9), TWICE, TWICE]), (2, 0))

    def test_beyond_three(self):
        self.assertEqual(troubles([("put", 0, 29)] + [TWICE] * 15), (15, 0))
        self.assertEqual(troubles([("put", 0, 29), FEED] + [SLIP] * 28 + [FEED]), (0, 28))
        self.assertEqual(troubles([("put", 0, 29)] + [FEED, SLIP, TWICE] * 5), (5, 5))

    def test_against_what_truly_went_through(self):
        choice = random.Random(10)
        words = [("put", 0, 29), ("put", 3, 12), FEED, FEED, TWICE, SLIP, SLIP]
        met = set()
        for _ in range(200):
            steps, state = self.taken_steps([choice.choice(words + [JAM]) for _ in range(choice.randrange(60))])
            runs = [list(places) for places in state[2] + (state[1],)]
            doubles = max(sum(last - first for first, last in places) for places in runs)
            slips = max(sum(b[0] - a[1] - 1 for a, b in zip(places, places[1:])) for places in runs)
            self.assertEqual(troubles(steps), (doubles, slips))
            met.add(min(doubles, 4))
            met.add(min(slips, 4))
        self.assertEqual(met, {0, 1, 2, 3, 4})

    def taken_steps(self, steps):
        """The steps that are not refused, and the state behind them."""
        taken = []
        state = brute.FRESH
        for step in steps:
            state, told = brute.model_step(30, (), state, step)
            if not isinstance(told, str):
                taken.append(step)
        return taken, state

    def test_steps_stay_as_they_were(self):
        steps = [("put", 0, 3), FEED, SLIP, TWICE]
        self.assertEqual(troubles(steps), (1, 1))
        self.assertEqual(steps, [("put", 0, 3), FEED, SLIP, TWICE])
        self.assertEqual(troubles(steps), (1, 1))
        self.assertIs(troubles(steps).__class__, tuple)


if __name__ == "__main__":
    unittest.main()
