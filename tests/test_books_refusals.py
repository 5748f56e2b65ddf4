import copy
import unittest

from pagefeeder.books import gaps, seen, shown_by, stacks
from pagefeeder.errors import BadBook, BadRule, BadRun, BadSize, FeedError
from tests.test_refusals import NO_BOOKS, NO_RULES, NO_SCANS

BLANK = (None, None)
# By any rule the second scan is ahead of the first one.
READLESS = [(2, 3), (0, 1)]


def stacks_of_one(sheets, rule, runs):
    return stacks(sheets, rule, runs, 1)


def stacks_of_none(sheets, rule, runs):
    return stacks(sheets, rule, runs, 0)


FINE = (shown_by, seen, gaps, stacks_of_one)
# What is told of all these is refused ahead of a wrong size.
ALL = FINE + (stacks_of_none,)


class RefusalTest(unittest.TestCase):
    def each(self, error, sheets, rule, runs, number=None):
        for function in ALL:
            with self.subTest(function=function.__name__, sheets=sheets, rule=rule, runs=runs):
                kept = copy.deepcopy(runs)
                with self.assertRaises(FeedError) as caught:
                    function(sheets, rule, runs)
                self.assertIs(caught.exception.__class__, error)
                self.assertIsInstance(caught.exception, ValueError)
                self.assertEqual(getattr(caught.exception, "number", None), number)
                self.assertEqual(runs, kept)

    def taken(self, sheets, rule, runs):
        for function in FINE:
            function(sheets, rule, runs)

    def test_books(self):
        for sheets in NO_BOOKS:
            self.each(BadBook, sheets, (0, 0), [])
        for sheets in (1, 30):
            self.taken(sheets, (0, 0), [[BLANK]])

    def test_rules(self):
        for rule in NO_RULES:
            self.each(BadRule, 6, rule, [])
        for rule in ((0, 0), (0, 3), (3, 0), (3, 3)):
            self.taken(6, rule, [[BLANK]])

    def test_runs_with_what_is_no_scan(self):
        for scan in NO_SCANS:
            for at in (0, 3, 11):
                runs = [[BLANK]] * at + [[BLANK, scan]] + [[]] * (11 - at)
                self.each(BadRun, 6, (0, 0), runs, at)

    def test_pages_depend_on_the_book(self):
        self.taken(7, (0, 0), [[(12, 13)]])
        self.each(BadRun, 6, (0, 0), [[(10, 11)], [(12, 13)]], 1)
        self.taken(30, (0, 0), [[(58, 59)]])
        self.each(BadRun, 30, (0, 0), [[(60, 61)]], 0)

    def test_runs_of_twenty_scans_and_more(self):
        self.taken(30, (0, 0), [[BLANK] * 20] * 12)
        self.each(BadRun, 30, (0, 0), [[BLANK] * 21], 0)
        self.each(BadRun, 30, (0, 0), [[BLANK] * 20, [BLANK] * 21, [BLANK] * 25], 1)

    def test_twelve_runs_and_more(self):
        self.taken(6, (0, 0), [[]] * 12)
        self.each(BadRun, 6, (0, 0), [[]] * 13, 12)
        self.each(BadRun, 6, (0, 0), [[BLANK]] * 16, 12)
        self.each(BadRun, 6, (0, 0), [[]] * 12 + [[(1, 1)]], 12)
        self.each(BadRun, 6, (0, 0), [[]] * 14 + [[(1, 1)]], 12)

    def test_the_first_that_is_none_is_told(self):
        self.each(BadRun, 6, (0, 0), [[], [(1, 1)], [], [(1, 1)]], 1)
        self.each(BadRun, 6, (0, 0), [[]] * 5 + [[(1, 1)]] + [[]] * 9, 5)
        self.each(BadRun, 6, (0, 0), [[]] * 11 + [[(1, 1)], []], 11)

    def test_runs_without_a_reading(self):
        self.each(BadRun, 6, (3, 3), [READLESS], 0)
        self.each(BadRun, 6, (3, 3), [[], [BLANK], READLESS, [], READLESS], 2)
        self.each(BadRun, 6, (3, 3), [[]] * 11 + [READLESS], 11)
        self.each(BadRun, 1, (3, 3), [[BLANK, BLANK]], 0)
        self.each(BadRun, 6, (3, 3), [[(0, 5)]], 0)

    def test_readings_depend_on_the_rule(self):
        slipped = [(0, 1), (6, 7)]
        double = [(0, 3)]
        self.taken(6, (0, 2), [slipped])
        self.each(BadRun, 6, (0, 1), [slipped], 0)
        self.each(BadRun, 6, (3, 1), [[], slipped], 1)
        self.taken(6, (1, 0), [double])
        self.each(BadRun, 6, (0, 3), [double], 0)

    def test_the_rule_is_kept_by_each_run_alone(self):
        self.taken(6, (1, 1), [[(0, 3), (6, 7)]] * 12)

    def test_without_a_reading_behind_all_that_are_none(self):
        self.each(BadRun, 6, (3, 3), [READLESS, [(1, 1)]], 1)
        self.each(BadRun, 6, (3, 3), [READLESS, [], [BLANK] * 21, READLESS], 2)
        self.each(BadRun, 6, (3, 3), [READLESS] * 13, 12)
        self.each(BadRun, 6, (3, 3), [READLESS] + [[]] * 12, 12)

    def test_what_is_handed_in_first_is_refused_first(self):
        for runs in ([], [[(1, 1)]], [[]] * 13, [READLESS]):
            self.each(BadBook, 0, (0, 0), runs)
            self.each(BadBook, 31, (4, 0), runs)
            self.each(BadRule, 6, (4, 0), runs)
            self.each(BadRule, 6, (0, 0, 0), runs)


class SizeTest(unittest.TestCase):
    def refused(self, error, sheets, rule, runs, size):
        with self.subTest(sheets=sheets, rule=rule, runs=runs, size=size):
            with self.assertRaises(FeedError) as caught:
                stacks(sheets, rule, runs, size)
            self.assertIs(caught.exception.__class__, error)

    def test_sizes(self):
        for sheets in (1, 2, 6, 30):
            for size in (-sheets, -1, 0, sheets + 1, sheets + 2, 31, 100):
                self.refused(BadSize, sheets, (0, 0), [], size)
            for size in (1, sheets):
                stacks(sheets, (0, 0), [], size)

    def test_refused_even_where_no_stack_is_wanted(self):
        runs = [[(0, 1), (2, 3)]]
        self.assertEqual(stacks(2, (0, 0), runs, 2), [])
        self.refused(BadSize, 2, (0, 0), runs, 0)
        self.refused(BadSize, 2, (0, 0), runs, 3)

    def test_behind_all_else(self):
        for size in (0, 7):
            self.refused(BadBook, 0, (0, 0), [], size)
            self.refused(BadRule, 6, (0, 4), [], size)
            self.refused(BadRun, 6, (0, 0), [[(1, 1)]], size)
            self.refused(BadRun, 6, (0, 0), [[]] * 13, size)
            self.refused(BadRun, 6, (0, 0), [READLESS], size)


class HandedInTest(unittest.TestCase):
    RUNS = [[(0, 1), BLANK, (None, 9)], [], [BLANK]]

    def test_what_is_handed_in_stays_as_it_was(self):
        for function in FINE:
            runs = copy.deepcopy(self.RUNS)
            function(8, (1, 2), runs)
            self.assertEqual(runs, self.RUNS)

    def test_asked_again_the_same_is_told(self):
        for function in FINE:
            self.assertEqual(function(8, (1, 2), self.RUNS), function(8, (1, 2), self.RUNS))

    def test_changing_what_was_told_changes_nothing(self):
        for function in FINE:
            told = function(8, (1, 2), self.RUNS)
            kept = copy.deepcopy(told)
            told[0] = "changed"
            told.append("more")
            self.assertEqual(function(8, (1, 2), self.RUNS), kept)
            function(8, (0, 0), []).clear()
            self.assertEqual(function(8, (1, 2), self.RUNS), kept)

    def test_changing_the_runs_later_changes_nothing_told(self):
        for function in FINE:
            runs = copy.deepcopy(self.RUNS)
            told = function(8, (1, 2), runs)
            kept = copy.deepcopy(told)
            runs[0].clear()
            runs.clear()
            self.assertEqual(told, kept)

    def test_kinds(self):
        shown = shown_by(8, (1, 2), self.RUNS)
        for function in FINE:
            self.assertIs(function(8, (1, 2), self.RUNS).__class__, list)
        self.assertEqual(len(shown), 16)
        self.assertEqual({row.__class__ for row in shown}, {tuple, None.__class__})
        self.assertEqual({row.__class__ for row in seen(8, (1, 2), self.RUNS)}, {int})
        self.assertEqual({row.__class__ for row in gaps(8, (1, 2), self.RUNS)}, {tuple})
        self.assertEqual({row.__class__ for row in stacks_of_one(8, (1, 2), self.RUNS)}, {tuple})


if __name__ == "__main__":
    unittest.main()
