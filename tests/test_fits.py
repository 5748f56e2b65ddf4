import unittest

from pagefeeder.errors import BadReading
from pagefeeder.readings import fits
from tests import brute

BLANK = (None, None)


class FitsTest(unittest.TestCase):
    def test_sheet_by_sheet(self):
        run = [(4, 5), (6, 7), (8, 9)]
        self.assertIs(fits(6, (0, 0), run, [(2, 2), (3, 3), (4, 4)]), True)

    def test_unread_pages_fit_any_sheets_in_turn(self):
        run = [BLANK, BLANK]
        for first in range(5):
            self.assertIs(fits(6, (0, 0), run, [(first, first), (first + 1, first + 1)]), True)

    def test_a_double_shows_the_firsts_front_and_the_lasts_back(self):
        self.assertIs(fits(4, (1, 0), [(2, 5)], [(1, 2)]), True)
        self.assertIs(fits(4, (1, 0), [(2, 3)], [(1, 2)]), False)
        self.assertIs(fits(4, (1, 0), [(4, 5)], [(1, 2)]), False)

    def test_run_without_scans(self):
        self.assertIs(fits(1, (0, 0), [], []), True)
        self.assertIs(fits(30, (3, 3), [], []), True)
        self.refused(0, 3, (0, 0), [], [(0, 0)])

    def test_too_few(self):
        self.assertIs(fits(4, (3, 3), [BLANK, BLANK], [(0, 0)]), False)
        self.assertIs(fits(4, (3, 3), [BLANK, BLANK], []), False)
        self.assertIs(fits(4, (3, 3), [BLANK], []), False)

    def test_another_page_than_it_would_be(self):
        self.assertIs(fits(4, (0, 0), [(2, None)], [(1, 1)]), True)
        self.assertIs(fits(4, (0, 0), [(2, None)], [(2, 2)]), False)
        self.assertIs(fits(4, (0, 0), [(None, 3)], [(1, 1)]), True)
        self.assertIs(fits(4, (0, 0), [(None, 3)], [(0, 0)]), False)
        self.assertIs(fits(4, (0, 0), [BLANK, (None, 5)], [(0, 0), (1, 1)]), False)
        self.assertIs(fits(4, (0, 0), [(0, 3)], [(0, 0)]), False)

    def test_first_not_behind_the_last_of_the_scan_ahead(self):
        run = [BLANK, BLANK]
        self.assertIs(fits(6, (3, 3), run, [(2, 2), (2, 2)]), False)
        self.assertIs(fits(6, (3, 3), run, [(2, 2), (1, 1)]), False)
        self.assertIs(fits(6, (3, 3), run, [(1, 2), (2, 2)]), False)
        self.assertIs(fits(6, (3, 3), run, [(1, 2), (2, 3)]), False)
        self.assertIs(fits(6, (3, 3), run, [(1, 2), (3, 4)]), True)

    def test_going_back_makes_up_for_no_slip(self):
        run = [BLANK, BLANK, BLANK]
        self.assertIs(fits(9, (0, 3), run, [(0, 0), (5, 5), (4, 4)]), False)

    def test_one_double_too_many(self):
        for doubles in range(4):
            fine = [(2 * k, 2 * k + 1) for k in range(doubles)]
            over = [(2 * k, 2 * k + 1) for k in range(doubles + 1)]
            self.assertIs(fits(8, (doubles, 0), [BLANK] * len(fine), fine), True)
            self.assertIs(fits(8, (doubles, 3), [BLANK] * len(over), over), False)

    def test_one_slip_too_many_at_once(self):
        for slips in range(4):
            self.assertIs(fits(9, (0, slips), [BLANK] * 2, [(1, 1), (2 + slips, 2 + slips)]), True)
            self.assertIs(fits(9, (3, slips), [BLANK] * 2, [(1, 1), (3 + slips, 3 + slips)]), False)

    def test_one_slip_too_many_all_in_all(self):
        for slips in range(1, 4):
            fine = [(2 * k, 2 * k) for k in range(slips + 1)]
            over = [(2 * k, 2 * k) for k in range(slips + 2)]
            self.assertIs(fits(9, (0, slips), [BLANK] * len(fine), fine), True)
            self.assertIs(fits(9, (3, slips), [BLANK] * len(over), over), False)

    def test_sheets_ahead_of_and_behind_the_run_do_not_slip(self):
        self.assertIs(fits(30, (0, 0), [BLANK], [(29, 29)]), True)
        self.assertIs(fits(30, (0, 0), [BLANK], [(0, 0)]), True)

    def test_against_all_places(self):
        for sheets, many in ((1, 1), (2, 2), (4, 2), (4, 3)):
            run = [BLANK] * many
            for places, doubles, slips in brute.ordered(sheets, many):
                for rule in brute.RULES:
                    holds = doubles <= rule[0] and slips <= rule[1]
                    self.assertIs(fits(sheets, rule, run, places), holds)

    def refused(self, number, sheets, rule, run, reading):
        with self.assertRaises(BadReading) as caught:
            fits(sheets, rule, run, reading)
        self.assertEqual(caught.exception.number, number)

    def test_no_place_at_the_first_a_middle_and_the_last(self):
        none = [(1, 0), (0, 2), (3, 1), (), (1,), (1, 1, 1), (-1, -1), (-1, 0), (6, 6), (5, 6), (7, 7), (0, 5), (2, -2)]
        run = [BLANK] * 5
        fine = [(k, k) for k in range(5)]
        for at in (0, 2, 4):
            for place in none:
                with self.subTest(at=at, place=place):
                    self.refused(at, 6, (3, 3), run, fine[:at] + [place] + fine[at + 1 :])

    def test_outside_depends_on_the_book(self):
        self.assertIs(fits(6, (3, 3), [BLANK], [(5, 5)]), True)
        self.refused(0, 5, (3, 3), [BLANK], [(5, 5)])
        self.assertIs(fits(6, (3, 3), [BLANK], [(4, 5)]), True)
        self.refused(0, 5, (3, 3), [BLANK], [(4, 5)])

    def test_one_too_many(self):
        self.refused(2, 6, (3, 3), [BLANK] * 2, [(0, 0), (1, 1), (2, 2)])
        self.refused(2, 6, (3, 3), [BLANK] * 2, [(0, 0), (1, 1), (2, 2), (3, 3)])
        self.refused(20, 30, (3, 3), [BLANK] * 20, [(k, k) for k in range(21)])

    def test_the_first_wrong_is_told(self):
        self.refused(1, 6, (3, 3), [BLANK] * 2, [(0, 0), (9, 9), (2, 2)])
        self.refused(1, 6, (3, 3), [BLANK] * 3, [(0, 0), (9, 9), (0, 2)])

    def test_refused_even_where_it_could_not_fit(self):
        self.refused(1, 6, (0, 0), [(0, 1), BLANK], [(3, 3), (0, 2)])
        self.refused(2, 6, (0, 0), [(0, 1), BLANK], [(3, 3), (1, 1), (2, 2)])
        self.refused(0, 6, (0, 0), [BLANK, BLANK], [(0, 2)])


if __name__ == "__main__":
    unittest.main()
