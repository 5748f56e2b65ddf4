import copy
import unittest

from pagefeeder.errors import BadBook, BadReading, BadRule, BadScan
from pagefeeder.readings import could, filled, fits, how_many, least_reading, least_rule

BLANK = (None, None)

NO_BOOKS = (-30, -1, 0, 31, 32, 60)
NO_RULES = (
    (-1, 0), (0, -1), (4, 0), (0, 4), (-1, 4), (4, 4), (0, 5), (100, 0),
    (), (0,), (3,), (0, 0, 0), (3, 3, 3), 0, 3,
)  # fmt: skip
# Of a book of 6 sheets, with the pages 0 to 11.
NO_SCANS = (
    (), (None,), (0,), (None, None, None), (0, 1, 2),
    (1, None), (None, 0), (1, 1), (0, 0), (1, 0), (11, None), (None, 10),
    (12, None), (None, 13), (12, 13), (14, None), (None, 99),
    (-2, None), (None, -1), (-1, None), (None, -2),
)  # fmt: skip


def empty_reading(sheets, rule, run):
    return fits(sheets, rule, run, [])


def ruleless(sheets, rule, run):
    return least_rule(sheets, run)


WITH_RULE = (could, how_many, least_reading, filled, empty_reading)
ALL = WITH_RULE + (ruleless,)


class RefusalTest(unittest.TestCase):
    def each(self, functions, error, sheets, rule, run):
        for function in functions:
            with self.subTest(function=function.__name__, sheets=sheets, rule=rule, run=run):
                with self.assertRaises(error) as caught:
                    function(sheets, rule, run)
                self.assertIs(caught.exception.__class__, error)

    def scan_refused(self, number, sheets, run):
        for function in ALL:
            with self.subTest(function=function.__name__, sheets=sheets, run=run):
                with self.assertRaises(BadScan) as caught:
                    function(sheets, (0, 0), run)
                self.assertEqual(caught.exception.number, number)

    def test_books(self):
        for sheets in NO_BOOKS:
            self.each(ALL, BadBook, sheets, (0, 0), [])
        for sheets in (1, 2, 29, 30):
            for function in ALL:
                function(sheets, (0, 0), [(0, 1)])

    def test_the_last_sheet_of_the_largest_book(self):
        self.assertEqual(least_reading(30, (0, 0), [(58, 59)]), [(29, 29)])
        self.scan_refused(0, 30, [(60, None)])
        self.scan_refused(0, 30, [(None, 61)])

    def test_rules(self):
        for rule in NO_RULES:
            self.each(WITH_RULE, BadRule, 6, rule, [])
        for rule in ((0, 0), (0, 3), (3, 0), (3, 3)):
            for function in WITH_RULE:
                function(6, rule, [])

    def test_scans_at_the_first_a_middle_and_the_last_place(self):
        for scan in NO_SCANS:
            for at in (0, 2, 4):
                self.scan_refused(at, 6, [BLANK] * at + [scan] + [BLANK] * (4 - at))

    def test_scans_of_a_book(self):
        for front in (None, 0, 2, 10):
            for back in (None, 1, 3, 11):
                for function in ALL:
                    function(6, (0, 0), [(front, back)])

    def test_pages_beyond_depend_on_the_book(self):
        for function in ALL:
            function(7, (0, 0), [(12, 13)])
        self.scan_refused(0, 6, [(12, 13)])
        self.scan_refused(0, 1, [(2, None)])
        self.scan_refused(0, 1, [(None, 3)])

    def test_twenty_scans_and_more(self):
        for function in ALL:
            function(30, (0, 0), [BLANK] * 20)
        self.scan_refused(20, 30, [BLANK] * 21)
        self.scan_refused(20, 30, [BLANK] * 25)
        self.scan_refused(19, 30, [BLANK] * 19 + [(1, 1)])

    def test_the_first_that_is_none_is_told(self):
        self.scan_refused(1, 6, [BLANK, (1, 1), BLANK, (1, 1)])
        self.scan_refused(3, 6, [BLANK] * 3 + [(1, 1)] + [BLANK] * 20)
        self.scan_refused(19, 6, [BLANK] * 19 + [(1, 1), BLANK])
        self.scan_refused(20, 6, [BLANK] * 20 + [(1, 1)])
        self.scan_refused(20, 6, [BLANK] * 22 + [(1, 1)])

    def test_what_is_handed_in_first_is_refused_first(self):
        self.each(WITH_RULE, BadBook, 0, (4, 0), [(1, 1)])
        self.each(WITH_RULE, BadBook, 31, (0, -1), [])
        self.each(ALL, BadBook, 31, (0, 0), [BLANK] * 21)
        self.each(ALL, BadBook, 0, (0, 0), [(0, 1)])
        self.each(WITH_RULE, BadRule, 6, (0, 0, 0), [(1, 1)])
        self.each(WITH_RULE, BadRule, 6, (0, 4), [BLANK] * 21)

    def test_a_reading_is_refused_last(self):
        wrong = [(0, 2)]
        for error, sheets, rule, run in (
            (BadBook, 0, (0, 0), [BLANK]),
            (BadRule, 6, (0, 4), [BLANK]),
            (BadScan, 6, (0, 0), [(1, 1)]),
            (BadScan, 6, (0, 0), [BLANK, (1, 1)]),
            (BadReading, 6, (0, 0), [BLANK]),
        ):
            with self.subTest(error=error.__name__):
                with self.assertRaises(error):
                    fits(sheets, rule, run, wrong)


class HandedInTest(unittest.TestCase):
    RUN = [(0, 1), BLANK, (None, 9), BLANK]

    def test_what_is_handed_in_stays_as_it_was(self):
        for function in ALL:
            run = copy.deepcopy(self.RUN)
            function(8, (1, 2), run)
            self.assertEqual(run, self.RUN)
        run = copy.deepcopy(self.RUN)
        reading = [(0, 0), (1, 1), (3, 4), (5, 5)]
        self.assertIs(fits(8, (1, 2), run, reading), True)
        self.assertEqual(run, self.RUN)
        self.assertEqual(reading, [(0, 0), (1, 1), (3, 4), (5, 5)])

    def test_what_is_refused_stays_as_it_was(self):
        run = [BLANK, (1, 1)] + [BLANK] * 20
        for function in ALL:
            with self.assertRaises(BadScan):
                function(8, (1, 2), run)
            self.assertEqual(run, [BLANK, (1, 1)] + [BLANK] * 20)

    def test_asked_again_the_same_is_told(self):
        for function in ALL:
            self.assertEqual(function(8, (1, 2), self.RUN), function(8, (1, 2), self.RUN))

    def test_changing_what_was_told_changes_nothing(self):
        run = list(self.RUN)
        for function in (could, least_reading, filled):
            told = function(8, (1, 2), run)
            kept = copy.deepcopy(told)
            told[0] = "changed"
            told.append("more")
            self.assertEqual(function(8, (1, 2), run), kept)
            self.assertEqual(run, self.RUN)

    def test_changing_the_lists_of_could_changes_nothing(self):
        told = could(8, (1, 2), self.RUN)
        kept = copy.deepcopy(told)
        for places in told:
            places.append((7, 7))
        self.assertEqual([places[:-1] for places in told], kept)
        self.assertEqual(could(8, (1, 2), self.RUN), kept)

    def test_filled_tells_another_list(self):
        run = [(0, 1)]
        told = filled(8, (0, 0), run)
        self.assertEqual(told, run)
        told.clear()
        self.assertEqual(run, [(0, 1)])
        empty = []
        for function in (could, least_reading, filled):
            function(8, (0, 0), empty).append("more")
            self.assertEqual(empty, [])
            self.assertEqual(function(8, (0, 0), empty), [])

    def test_changing_the_run_later_changes_nothing_told(self):
        run = list(self.RUN)
        told = filled(8, (1, 2), run)
        kept = list(told)
        run.clear()
        self.assertEqual(told, kept)

    def test_kinds(self):
        self.assertIs(could(8, (1, 2), self.RUN).__class__, list)
        for rows in (least_reading(8, (1, 2), self.RUN), filled(8, (1, 2), self.RUN), could(8, (1, 2), self.RUN)[1]):
            self.assertIs(rows.__class__, list)
            for row in rows:
                self.assertIs(row.__class__, tuple)
        self.assertIs(how_many(8, (1, 2), self.RUN).__class__, int)
        self.assertIs(least_rule(8, self.RUN).__class__, tuple)


if __name__ == "__main__":
    unittest.main()
