import itertools
import random
import unittest

from pagefeeder import errors
from pagefeeder.errors import BadBlind, BadBook, BadStack, Busy, FeedError, NoSheet
from pagefeeder.feeder import Feeder
from tests import brute


class FeederTestCase(unittest.TestCase):
    def stands(self, feeder, waits, run, runs):
        self.assertEqual(brute.feeder_tells(feeder), (waits, run, runs))

    def refused(self, feeder, error, step):
        """The step is refused, by just this class, and the Feeder stands as before."""
        ahead = brute.feeder_tells(feeder)
        with self.assertRaises(FeedError) as caught:
            brute.call_step(feeder, step)
        self.assertIs(caught.exception.__class__, error)
        self.assertEqual(brute.feeder_tells(feeder), ahead)


class KnownTest(FeederTestCase):
    def test_new(self):
        for sheets in (1, 30):
            self.stands(Feeder(sheets, ()), None, [], [])

    def test_sheet_by_sheet(self):
        feeder = Feeder(4, ())
        self.assertIsNone(feeder.put(1, 3))
        self.stands(feeder, (1, 3), [], [])
        self.assertEqual(feeder.feed(), (2, 3))
        self.stands(feeder, (2, 3), [(2, 3)], [])
        self.assertEqual(feeder.feed(), (4, 5))
        self.stands(feeder, (3, 3), [(2, 3), (4, 5)], [])
        self.assertEqual(feeder.feed(), (6, 7))
        self.stands(feeder, None, [], [[(2, 3), (4, 5), (6, 7)]])

    def test_twice_at_the_first_a_middle_and_the_last_sheets(self):
        feeder = Feeder(6, ())
        feeder.put(0, 5)
        self.assertEqual(feeder.twice(), (0, 3))
        self.stands(feeder, (2, 5), [(0, 3)], [])
        self.assertEqual(feeder.twice(), (4, 7))
        self.stands(feeder, (4, 5), [(0, 3), (4, 7)], [])
        self.assertEqual(feeder.twice(), (8, 11))
        self.stands(feeder, None, [], [[(0, 3), (4, 7), (8, 11)]])

    def test_slip_at_the_first_a_middle_and_the_last_sheet(self):
        feeder = Feeder(5, ())
        feeder.put(0, 4)
        self.assertIsNone(feeder.slip())
        self.stands(feeder, (1, 4), [], [])
        feeder.feed()
        self.assertIsNone(feeder.slip())
        self.stands(feeder, (3, 4), [(2, 3)], [])
        feeder.feed()
        self.assertIsNone(feeder.slip())
        self.stands(feeder, None, [], [[(2, 3), (6, 7)]])

    def test_jam_at_the_first_a_middle_and_the_last_sheet(self):
        for fed in (0, 1, 2):
            feeder = Feeder(3, ())
            feeder.put(0, 2)
            scans = [feeder.feed() for _ in range(fed)]
            self.assertIsNone(feeder.jam())
            self.stands(feeder, None, [], [scans] if scans else [])

    def test_runs_without_scans_are_not_told(self):
        feeder = Feeder(3, ())
        feeder.put(0, 2)
        feeder.jam()
        self.stands(feeder, None, [], [])
        feeder.put(0, 1)
        feeder.slip()
        feeder.slip()
        self.stands(feeder, None, [], [])
        feeder.put(2, 2)
        feeder.feed()
        feeder.put(0, 0)
        feeder.slip()
        feeder.put(0, 0)
        feeder.feed()
        self.stands(feeder, None, [], [[(4, 5)], [(0, 1)]])

    def test_the_run_that_goes_on_is_not_over(self):
        feeder = Feeder(3, ())
        feeder.put(0, 0)
        feeder.feed()
        feeder.put(0, 2)
        self.stands(feeder, (0, 2), [], [[(0, 1)]])
        feeder.feed()
        self.stands(feeder, (1, 2), [(0, 1)], [[(0, 1)]])
        feeder.twice()
        self.stands(feeder, None, [], [[(0, 1)], [(0, 1), (2, 5)]])

    def test_a_run_is_over_by_each_step(self):
        for word, scans in (("feed", [(0, 1), (2, 3)]), ("slip", [(0, 1)]), ("jam", [(0, 1)])):
            feeder = Feeder(2, ())
            feeder.put(0, 1)
            feeder.feed()
            brute.call_step(feeder, (word,))
            self.stands(feeder, None, [], [scans])
        feeder = Feeder(3, ())
        feeder.put(0, 2)
        feeder.feed()
        feeder.twice()
        self.stands(feeder, None, [], [[(0, 1), (2, 5)]])

    def test_blind_fronts_and_backs(self):
        feeder = Feeder(4, (0, 3, 4, 5))
        feeder.put(0, 3)
        self.assertEqual([feeder.feed() for _ in range(4)], [(None, 1), (2, None), (None, None), (6, 7)])
        self.stands(feeder, None, [], [[(None, 1), (2, None), (None, None), (6, 7)]])

    def test_blind_pages_of_sheets_that_go_through_at_once(self):
        # Only the first one's front and the last one's back are looked at.
        expected = {(0,): (None, 3), (1,): (0, 3), (2,): (0, 3), (3,): (0, None), (0, 3): (None, None)}
        for blind, scan in expected.items():
            feeder = Feeder(2, blind)
            feeder.put(0, 1)
            self.assertEqual(feeder.twice(), scan)

    def test_all_pages_blind(self):
        feeder = Feeder(30, tuple(range(60)))
        feeder.put(0, 29)
        for _ in range(30):
            self.assertEqual(feeder.feed(), (None, None))
        self.stands(feeder, None, [], [[(None, None)] * 30])

    def test_many_runs(self):
        feeder = Feeder(2, ())
        for _ in range(15):
            feeder.put(1, 1)
            feeder.feed()
        self.stands(feeder, None, [], [[(2, 3)]] * 15)


class RefusalTest(FeederTestCase):
    def test_books(self):
        for sheets in (-1, 0, 31, 32):
            for blind in ((), (1, 0), (0,), (99,)):
                with self.assertRaises(BadBook):
                    Feeder(sheets, blind)

    def test_blind_pages(self):
        for blind in ((-1,), (6,), (7,), (0, 0), (1, 0), (0, 2, 1), (0, 5, 5), (0, 6), (-1, 0), (5, 4, 3), (0, 1, 0)):
            with self.subTest(blind=blind):
                with self.assertRaises(FeedError) as caught:
                    Feeder(3, blind)
                self.assertIs(caught.exception.__class__, BadBlind)
        for blind in ((), (0,), (5,), (0, 5), (1, 2, 4), (0, 1, 2, 3, 4, 5)):
            self.stands(Feeder(3, blind), None, [], [])

    def test_blind_pages_depend_on_the_book(self):
        Feeder(30, (59,))
        for sheets, page in ((30, 60), (29, 58), (1, 2)):
            with self.assertRaises(BadBlind):
                Feeder(sheets, (page,))

    def test_stacks(self):
        feeder = Feeder(4, ())
        for low, high in ((-1, 0), (-1, -1), (0, 4), (4, 4), (1, 0), (3, 2), (3, 0), (5, 7), (0, -1)):
            self.refused(feeder, BadStack, ("put", low, high))
        for low, high in ((0, 0), (0, 3), (3, 3), (1, 2)):
            feeder.put(low, high)
            self.assertEqual(feeder.waits(), (low, high))
            feeder.jam()

    def test_put_while_sheets_wait(self):
        feeder = Feeder(4, ())
        feeder.put(1, 2)
        self.refused(feeder, Busy, ("put", 0, 0))
        self.refused(feeder, Busy, ("put", 1, 2))
        feeder.feed()
        self.refused(feeder, Busy, ("put", 3, 3))
        feeder.feed()
        feeder.put(3, 3)

    def test_a_wrong_stack_while_sheets_wait(self):
        feeder = Feeder(4, ())
        feeder.put(1, 2)
        self.refused(feeder, BadStack, ("put", 0, 4))
        self.refused(feeder, BadStack, ("put", 2, 1))

    def test_none_waits(self):
        fed = Feeder(4, ())
        fed.put(0, 0)
        fed.feed()
        for feeder in (Feeder(4, ()), fed):
            for word in ("feed", "twice", "slip", "jam"):
                self.refused(feeder, NoSheet, (word,))

    def test_twice_with_one(self):
        feeder = Feeder(4, ())
        feeder.put(0, 0)
        self.refused(feeder, NoSheet, ("twice",))
        self.assertEqual(feeder.feed(), (0, 1))
        feeder.put(1, 3)
        feeder.twice()
        self.refused(feeder, NoSheet, ("twice",))
        self.stands(feeder, (3, 3), [(2, 5)], [[(0, 1)]])


class ModelTest(FeederTestCase):
    def follow(self, sheets, blind, steps):
        """Hand the steps to a Feeder and to the model; tell which refusals there were."""
        feeder = Feeder(sheets, blind)
        state = brute.FRESH
        met = set()
        for step in steps:
            state, told = brute.model_step(sheets, blind, state, step)
            try:
                self.assertEqual(brute.call_step(feeder, step), told)
            except FeedError as error:
                self.assertIs(error.__class__, getattr(errors, str(told), None), step)
                met.add(told)
            self.assertEqual(brute.feeder_tells(feeder), brute.model_tells(blind, state))
            self.assertEqual(brute.feeder_tells(feeder), brute.model_tells(blind, state))
        return met

    def test_all_orders_of_few_steps(self):
        words = [("put", 0, 2), ("feed",), ("twice",), ("slip",), ("jam",)]
        for many in range(7):
            for steps in itertools.product(words, repeat=many):
                self.follow(3, (2,), steps)

    def test_many_steps(self):
        choice = random.Random(7)
        met = set()
        for _ in range(150):
            sheets = choice.choice((1, 2, 3, 7, 30))
            blind = brute.random_blind(choice, sheets, choice.choice((0, 0.3, 1)))
            puts = [("put", choice.randrange(-1, sheets + 1), choice.randrange(-1, sheets + 1)) for _ in range(8)]
            words = puts + [("feed",)] * 8 + [("twice",)] * 4 + [("slip",)] * 4 + [("jam",)]
            met |= self.follow(sheets, blind, [choice.choice(words) for _ in range(80)])
        self.assertEqual(met, {"BadStack", "Busy", "NoSheet"})


class KeptTest(FeederTestCase):
    def test_changing_what_was_told_changes_nothing(self):
        feeder = Feeder(3, (1,))
        for _ in range(2):
            feeder.put(0, 2)
            feeder.feed()
            feeder.twice()
        feeder.put(0, 2)
        feeder.feed()
        runs = [[(0, None), (2, 5)], [(0, None), (2, 5)]]
        self.stands(feeder, (1, 2), [(0, None)], runs)
        feeder.run().append("more")
        feeder.run().clear()
        feeder.runs().append("more")
        feeder.runs()[0].append("more")
        feeder.runs()[1].clear()
        feeder.runs().clear()
        self.stands(feeder, (1, 2), [(0, None)], runs)

    def test_changing_the_run_that_goes_on_changes_no_run_that_is_over(self):
        feeder = Feeder(3, ())
        feeder.put(0, 2)
        feeder.feed()
        told = feeder.run()
        told.append("more")
        feeder.feed()
        self.assertEqual(told, [(0, 1), "more"])
        feeder.feed()
        self.assertEqual(told, [(0, 1), "more"])
        self.assertEqual(feeder.runs(), [[(0, 1), (2, 3), (4, 5)]])

    def test_what_was_told_does_not_grow(self):
        feeder = Feeder(3, ())
        feeder.put(0, 0)
        feeder.feed()
        runs = feeder.runs()
        feeder.put(1, 1)
        feeder.feed()
        self.assertEqual(runs, [[(0, 1)]])

    def test_two_feeders_by_turns(self):
        choice = random.Random(8)
        words = [("put", 0, 3), ("put", 2, 3), ("feed",), ("feed",), ("twice",), ("slip",), ("jam",)]
        blinds = [(), (0, 3)]
        feeders = [Feeder(4, blind) for blind in blinds]
        states = [brute.FRESH] * 2
        for _ in range(400):
            at = choice.randrange(2)
            step = choice.choice(words)
            states[at], told = brute.model_step(4, blinds[at], states[at], step)
            try:
                self.assertEqual(brute.call_step(feeders[at], step), told)
            except FeedError as error:
                self.assertEqual(error.__class__.__name__, told)
            for feeder, blind, state in zip(feeders, blinds, states):
                self.assertEqual(brute.feeder_tells(feeder), brute.model_tells(blind, state))

    def test_kinds(self):
        feeder = Feeder(4, ())
        feeder.put(0, 3)
        self.assertIs(feeder.feed().__class__, tuple)
        self.assertIs(feeder.waits().__class__, tuple)
        self.assertIs(feeder.twice().__class__, tuple)
        self.assertIs(feeder.run().__class__, list)
        feeder.feed()
        self.assertIs(feeder.run().__class__, list)
        self.assertIs(feeder.runs().__class__, list)
        self.assertIs(feeder.runs()[0].__class__, list)


if __name__ == "__main__":
    unittest.main()
