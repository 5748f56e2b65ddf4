import math
import unittest

from pagefeeder.readings import could, filled, fits, how_many, least_reading, least_rule
from tests import brute

BLANK = (None, None)


class KnownTest(unittest.TestCase):
    def test_one_scan_of_one_sheet(self):
        self.assertEqual(could(1, (3, 3), [BLANK]), [[(0, 0)]])
        self.assertEqual(how_many(1, (3, 3), [BLANK]), 1)
        self.assertEqual(least_reading(1, (3, 3), [BLANK]), [(0, 0)])
        self.assertEqual(filled(1, (3, 3), [BLANK]), [(0, 1)])

    def test_places_rise(self):
        self.assertEqual(could(3, (1, 0), [BLANK]), [[(0, 0), (0, 1), (1, 1), (1, 2), (2, 2)]])

    def test_a_page_between_is_filled_by_its_neighbours(self):
        run = [(2, None), BLANK, (None, 7)]
        self.assertEqual(could(9, (0, 0), run), [[(1, 1)], [(2, 2)], [(3, 3)]])
        self.assertEqual(filled(9, (0, 0), run), [(2, 3), (4, 5), (6, 7)])

    def test_a_slip_leaves_two_sheets_open(self):
        run = [(0, 1), BLANK, (6, 7)]
        self.assertEqual(could(9, (0, 1), run), [[(0, 0)], [(1, 1), (2, 2)], [(3, 3)]])
        self.assertEqual(how_many(9, (0, 1), run), 2)
        self.assertEqual(least_reading(9, (0, 1), run), [(0, 0), (1, 1), (3, 3)])
        self.assertEqual(filled(9, (0, 1), run), run)
        self.assertEqual(could(9, (1, 0), run), [[(0, 0)], [(1, 2)], [(3, 3)]])
        self.assertEqual(filled(9, (1, 0), run), [(0, 1), (2, 5), (6, 7)])

    def test_one_side_may_be_the_same_by_all(self):
        self.assertEqual(filled(2, (1, 0), [(0, None)]), [(0, None)])
        self.assertEqual(filled(3, (1, 0), [(4, None)]), [(4, 5)])
        self.assertEqual(filled(9, (1, 1), [(0, 1), BLANK, (4, 5)]), [(0, 1), (2, 3), (4, 5)])
        self.assertEqual(filled(9, (1, 1), [(0, 1), (2, None), (6, 7)]), [(0, 1), (2, None), (6, 7)])

    def test_the_least_reading_is_not_the_one_with_the_least_first_step(self):
        run = [BLANK, BLANK, (None, 9)]
        self.assertEqual(least_reading(9, (0, 1), run), [(1, 1), (2, 2), (4, 4)])
        self.assertEqual(least_reading(9, (1, 0), run), [(1, 1), (2, 2), (3, 4)])

    def test_no_reading(self):
        for sheets, rule, run in (
            (9, (3, 3), [(4, 5), (2, 3)]),
            (9, (3, 3), [(4, 5), (4, 5)]),
            (9, (3, 2), [(0, 1), (8, 9)]),
            (9, (0, 3), [(0, 3)]),
            (9, (3, 3), [(0, 5)]),
            (9, (3, 3), [(2, 1)]),
            (2, (3, 3), [BLANK] * 3),
            (9, (3, 3), [(0, 1), BLANK, (2, 3), BLANK]),
        ):
            with self.subTest(sheets=sheets, rule=rule, run=run):
                self.assertIsNone(could(sheets, rule, run))
                self.assertEqual(how_many(sheets, rule, run), 0)
                self.assertIsNone(least_reading(sheets, rule, run))
                self.assertIsNone(filled(sheets, rule, run))

    def test_run_without_scans(self):
        for sheets in (1, 2, 30):
            for rule in brute.RULES:
                self.assertEqual(could(sheets, rule, []), [])
                self.assertEqual(how_many(sheets, rule, []), 1)
                self.assertEqual(least_reading(sheets, rule, []), [])
                self.assertEqual(filled(sheets, rule, []), [])
            self.assertEqual(least_rule(sheets, []), (0, 0))

    def test_least_rule(self):
        self.assertEqual(least_rule(9, [(0, 1), (2, 3)]), (0, 0))
        self.assertEqual(least_rule(9, [(0, 1), (4, 5)]), (0, 1))
        self.assertEqual(least_rule(9, [(0, 3)]), (1, 0))
        self.assertEqual(least_rule(9, [(0, 1), (8, 9)]), (0, 3))
        self.assertEqual(least_rule(9, [(0, 3), (4, 7), (8, 11)]), (3, 0))
        self.assertEqual(least_rule(9, [(0, 3), (6, 9), (12, 15)]), (3, 2))
        self.assertEqual(least_rule(9, [BLANK] * 9), (0, 0))

    def test_least_rule_of_several_has_the_fewest_doubles(self):
        self.assertEqual(least_rule(9, [(0, 1), BLANK, (6, 7)]), (0, 1))
        self.assertEqual(least_rule(9, [(0, None), (None, 5)]), (0, 1))
        self.assertEqual(least_rule(9, [(0, 1), BLANK, (12, 13)]), (1, 3))
        self.assertEqual(least_rule(15, [(0, 1), BLANK, BLANK, BLANK, (20, 21)]), (3, 3))

    def test_least_rule_with_doubles_that_must_be(self):
        self.assertEqual(least_rule(4, [(0, None), BLANK, (None, 7)]), (0, 1))
        self.assertEqual(least_rule(4, [(0, 3), (None, 7)]), (1, 1))
        self.assertEqual(least_rule(4, [(0, 3), (4, None), (6, 7)]), (1, 0))

    def test_no_rule_at_all(self):
        self.assertIsNone(least_rule(9, [(0, 1), (10, 11)]))
        self.assertIsNone(least_rule(9, [(0, 3), (4, 7), (8, 11), (12, 15)]))
        self.assertIsNone(least_rule(9, [(2, 3), (0, 1)]))
        self.assertIsNone(least_rule(9, [(0, 5)]))
        self.assertIsNone(least_rule(1, [BLANK, BLANK]))
        self.assertIsNone(least_rule(16, [(0, 1), BLANK, BLANK, BLANK, (22, 23)]))


class SmallTest(unittest.TestCase):
    """Against all readings told one by one, over all rules."""

    def test_small_books(self):
        for sheets, run in brute.small_cases():
            table = brute.readings_by_rule(sheets, run)
            with self.subTest(sheets=sheets, run=run):
                self.assertEqual(least_rule(sheets, run), brute.least_rule_of(table))
                for rule in brute.RULES:
                    self.compare(sheets, rule, run, table[rule])

    def test_all_pages_unread(self):
        for sheets in range(1, 7):
            for many in range(4):
                run = [BLANK] * many
                table = brute.readings_by_rule(sheets, run)
                with self.subTest(sheets=sheets, many=many):
                    for rule in brute.RULES:
                        self.compare(sheets, rule, run, table[rule])

    def compare(self, sheets, rule, run, readings):
        self.assertEqual(could(sheets, rule, run), brute.could_of(readings, len(run)))
        self.assertEqual(how_many(sheets, rule, run), len(readings))
        self.assertEqual(least_reading(sheets, rule, run), readings[0] if readings else None)
        self.compare_filled(sheets, rule, run, readings)
        for reading in readings[:3]:
            self.assertIs(fits(sheets, rule, run, reading), True)

    def compare_filled(self, sheets, rule, run, readings):
        told = filled(sheets, rule, run)
        self.assertEqual(told, brute.filled_of(readings, run))
        if told is not None:
            self.assertEqual(filled(sheets, rule, told), told)
            self.assertEqual(brute.readings_by_rule(sheets, told)[rule], readings)


class LongTest(unittest.TestCase):
    def test_unread_runs_by_a_formula(self):
        for sheets in (1, 2, 19, 20, 21, 25, 29, 30):
            for many in (1, 2, 10, 19, 20):
                for rule in brute.RULES:
                    with self.subTest(sheets=sheets, many=many, rule=rule):
                        expected = self.unread(sheets, many, rule)
                        self.assertEqual(how_many(sheets, rule, [BLANK] * many), expected)

    def unread(self, sheets, many, rule):
        """Choose the doubles, spread the slips, then choose where the run begins."""
        total = 0
        for doubles in range(min(rule[0], many) + 1):
            for slips in range(rule[1] + 1):
                begins = max(0, sheets - many - doubles - slips + 1)
                spread = math.comb(slips + many - 2, slips) if many > 1 else int(slips == 0)
                total += math.comb(many, doubles) * spread * begins
        return total

    def test_unread_runs_without_troubles(self):
        run = [BLANK] * 20
        expected = [[(k, k) for k in range(at, at + 11)] for at in range(20)]
        self.assertEqual(could(30, (0, 0), run), expected)
        self.assertEqual(least_reading(30, (3, 3), run), [(k, k) for k in range(20)])
        self.assertEqual(filled(30, (3, 3), run), run)
        self.assertEqual(filled(20, (3, 3), run), [(2 * k, 2 * k + 1) for k in range(20)])
        self.assertIsNone(could(19, (3, 3), run))
        self.assertIsNone(least_rule(19, run))

    def test_one_page_settles_all(self):
        run = [BLANK] * 19 + [(None, 59)]
        self.assertEqual(filled(30, (0, 0), run), [(2 * k, 2 * k + 1) for k in range(10, 30)])
        self.assertEqual(least_reading(30, (0, 0), run), [(k, k) for k in range(10, 30)])

    def test_long_runs(self):
        with_reading = without = 0
        for sheets, run in brute.long_cases():
            for rule in ((0, 0), (0, 3), (1, 2), (3, 0), (3, 3)):
                counted = brute.Counted(sheets, rule, run)
                with self.subTest(sheets=sheets, run=run, rule=rule):
                    self.assertEqual(how_many(sheets, rule, run), counted.how_many())
                    if counted.how_many():
                        with_reading += 1
                        self.compare(sheets, rule, run, counted)
                    else:
                        without += 1
                        self.none(sheets, rule, run)
        self.assertGreater(with_reading, 50)
        self.assertGreater(without, 50)

    def none(self, sheets, rule, run):
        self.assertIsNone(could(sheets, rule, run))
        self.assertIsNone(least_reading(sheets, rule, run))
        self.assertIsNone(filled(sheets, rule, run))

    def compare(self, sheets, rule, run, counted):
        places = counted.could()
        self.assertEqual(could(sheets, rule, run), places)
        self.assertEqual(least_reading(sheets, rule, run), counted.least())
        self.assertIs(fits(sheets, rule, run, counted.least()), True)
        told = filled(sheets, rule, run)
        self.assertEqual(told, [self.fill(scan, found) for scan, found in zip(run, places)])
        self.assertEqual(filled(sheets, rule, told), told)
        self.assertEqual(how_many(sheets, rule, told), counted.how_many())

    def fill(self, scan, places):
        sides = zip(scan, zip(*[brute.pages(place) for place in places]))
        return tuple(same[0] if len(set(same)) == 1 else told for told, same in sides)

    def test_least_rule_of_long_runs(self):
        for sheets, run in brute.long_cases():
            with self.subTest(sheets=sheets, run=run):
                table = {rule: brute.Counted(sheets, rule, run).how_many() for rule in brute.RULES}
                self.assertEqual(least_rule(sheets, run), brute.least_rule_of(table))


if __name__ == "__main__":
    unittest.main()
