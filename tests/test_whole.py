import inspect
import random
import unittest

from pagefeeder import books, errors, feeder, notes, plays, readings
from pagefeeder.books import gaps, seen, shown_by, stacks
from pagefeeder.feeder import Feeder
from pagefeeder.notes import read, written
from pagefeeder.plays import played, troubles
from pagefeeder.readings import could, filled, fits, how_many, least_rule
from tests import brute


class FedTest(unittest.TestCase):
    """Point 9: runs of a Feeder, against what truly went through."""

    def plays(self):
        """(sheets, rule, steps, Feeder, what truly went through) of plays that keep the rule."""
        choice = random.Random(12)
        for _ in range(250):
            sheets = choice.choice((1, 2, 3, 5, 8, 12, 20, 30))
            rule = choice.choice(brute.RULES)
            blind = brute.random_blind(choice, sheets, choice.choice((0, 0.2, 0.5, 0.8, 1)))
            steps = brute.careful_play(choice, sheets, rule, 8, min(sheets, 20))
            told, fed = played(sheets, blind, steps)
            self.assertNotIn("no", told)
            state = brute.FRESH
            for step in steps:
                state, _ = brute.model_step(sheets, blind, state, step)
            yield sheets, rule, steps, fed, [list(places) for places in state[2]]

    def test_what_truly_went_through_is_a_reading(self):
        runs = 0
        for sheets, rule, steps, fed, truth in self.plays():
            self.assertEqual(len(fed.runs()), len(truth))
            for run, places in zip(fed.runs(), truth):
                runs += 1
                self.assertIs(fits(sheets, rule, run, places), True)
                self.assertGreater(how_many(sheets, rule, run), 0)
                self.assertTrue(all(place in found for place, found in zip(places, could(sheets, rule, run))))
                self.assertLessEqual(sum(least_rule(sheets, run)), sum(rule))
        self.assertGreater(runs, 500)

    def test_troubles_are_kept_by_all_runs(self):
        for sheets, rule, steps, fed, truth in self.plays():
            least = troubles(steps)
            self.assertTrue(least[0] <= rule[0] and least[1] <= rule[1])
            self.assertTrue(all(fits(sheets, least, run, places) for run, places in zip(fed.runs(), truth)))
            for less in ((least[0] - 1, least[1]), (least[0], least[1] - 1)):
                if min(less) >= 0:
                    kept = [fits(sheets, less, run, places) for run, places in zip(fed.runs(), truth)]
                    self.assertIn(False, kept)

    def test_what_is_surely_shown_is_so(self):
        sure = unread = 0
        for sheets, rule, steps, fed, truth in self.plays():
            runs = fed.runs()
            shown = shown_by(sheets, rule, runs)
            for page, at in enumerate(shown):
                if at is not None:
                    sure += 1
                    unread += page not in runs[at[0]][at[1]]
                    self.assertIn(page, brute.pages(truth[at[0]][at[1]]))
            told = [page for places in truth for place in places for page in brute.pages(place)]
            for page, count in enumerate(seen(sheets, rule, runs)):
                self.assertLessEqual(count, told.count(page))
            for run, places in zip(runs, truth):
                self.assertTrue(brute.told_by(filled(sheets, rule, run), places))
        self.assertGreater(sure, 500)
        self.assertGreater(unread, 50)

    def test_stacks_fed_again_leave_no_gaps(self):
        choice = random.Random(13)
        again = 0
        for sheets, rule, steps, fed, truth in self.plays():
            size = choice.randrange(1, min(sheets, 20) + 1)
            runs = fed.runs()
            laid = stacks(sheets, rule, runs, size)
            self.assertEqual(laid == [], gaps(sheets, rule, runs) == [])
            reader = Feeder(sheets, ())
            for first, last in laid:
                reader.put(first, last)
                for _ in range(first, last + 1):
                    reader.feed()
            self.assertIsNone(reader.waits())
            if len(runs) + len(laid) <= 12:
                again += 1
                self.assertEqual(gaps(sheets, rule, runs + reader.runs()), [])
                self.assertEqual(stacks(sheets, rule, runs + reader.runs(), size), [])
        self.assertGreater(again, 100)

    def test_runs_of_a_feeder_are_written_and_read(self):
        for sheets, rule, steps, fed, truth in self.plays():
            self.assertEqual(read(written(fed.runs())), fed.runs())


class InterfaceTest(unittest.TestCase):
    FUNCTIONS = (
        (readings, "fits", ["sheets", "rule", "run", "reading"]),
        (readings, "could", ["sheets", "rule", "run"]),
        (readings, "least_reading", ["sheets", "rule", "run"]),
        (readings, "filled", ["sheets", "rule", "run"]),
        (readings, "how_many", ["sheets", "rule", "run"]),
        (readings, "least_rule", ["sheets", "run"]),
        (books, "shown_by", ["sheets", "rule", "runs"]),
        (books, "seen", ["sheets", "rule", "runs"]),
        (books, "gaps", ["sheets", "rule", "runs"]),
        (books, "stacks", ["sheets", "rule", "runs", "size"]),
        (feeder, "Feeder", ["sheets", "blind"]),
        (plays, "played", ["sheets", "blind", "steps"]),
        (plays, "troubles", ["steps"]),
        (notes, "written", ["runs"]),
        (notes, "read", ["text"]),
    )
    METHODS = {"put": ["low", "high"]} | {name: [] for name in ("feed", "twice", "slip", "jam", "waits", "run", "runs")}

    def test_functions(self):
        for module, name, arguments in self.FUNCTIONS:
            with self.subTest(name=name):
                self.assertEqual(list(inspect.signature(getattr(module, name)).parameters), arguments)

    def test_methods_stand_in_the_class_itself(self):
        for name, arguments in self.METHODS.items():
            with self.subTest(name=name):
                self.assertEqual(list(inspect.signature(vars(Feeder)[name]).parameters), ["self"] + arguments)

    def test_refusals_that_are_raised_are_of_the_interface(self):
        for name, kind in vars(errors).items():
            if inspect.isclass(kind):
                with self.subTest(name=name):
                    self.assertTrue(issubclass(kind, errors.FeedError))
                    self.assertTrue(issubclass(kind, ValueError))


if __name__ == "__main__":
    unittest.main()
