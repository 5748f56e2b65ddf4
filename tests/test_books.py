import itertools
import random
import unittest

from pagefeeder.books import gaps, seen, shown_by, stacks
from pagefeeder.readings import filled
from tests import brute

BLANK = (None, None)


def whole(*sheets):
    """A run of these sheets, all numbers read."""
    return [(2 * sheet, 2 * sheet + 1) for sheet in sheets]


class KnownTest(unittest.TestCase):
    def test_no_runs(self):
        for sheets in (1, 2, 30):
            for rule in ((0, 0), (3, 3)):
                self.assertEqual(shown_by(sheets, rule, []), [None] * (2 * sheets))
                self.assertEqual(seen(sheets, rule, []), [0] * (2 * sheets))
                self.assertEqual(gaps(sheets, rule, []), [(0, 2 * sheets - 1)])
                self.assertEqual(stacks(sheets, rule, [], sheets), [(0, sheets - 1)])

    def test_runs_without_scans_show_nothing(self):
        self.assertEqual(shown_by(2, (0, 0), [[], []]), [None] * 4)
        self.assertEqual(seen(2, (0, 0), [[]] * 12), [0] * 4)
        self.assertEqual(gaps(2, (0, 0), [[]]), [(0, 3)])

    def test_runs_without_scans_are_numbered_too(self):
        self.assertEqual(shown_by(2, (0, 0), [[], whole(1), [], whole(0)]), [(3, 0), (3, 0), (1, 0), (1, 0)])

    def test_one_run(self):
        run = whole(1, 2)
        self.assertEqual(shown_by(4, (0, 0), [run]), [None, None, (0, 0), (0, 0), (0, 1), (0, 1), None, None])
        self.assertEqual(seen(4, (0, 0), [run]), [0, 0, 1, 1, 1, 1, 0, 0])
        self.assertEqual(gaps(4, (0, 0), [run]), [(0, 1), (6, 7)])

    def test_twelve_runs(self):
        runs = [whole(sheet) for sheet in range(12)]
        self.assertEqual(shown_by(12, (3, 3), runs), [(page // 2, 0) for page in range(24)])
        self.assertEqual(seen(12, (3, 3), runs), [1] * 24)
        self.assertEqual(gaps(12, (3, 3), runs), [])

    def test_the_first_of_several_scans_is_told(self):
        runs = [whole(2), whole(0, 1, 2), whole(1, 2)]
        self.assertEqual(shown_by(3, (0, 0), runs), [(1, 0), (1, 0), (1, 1), (1, 1), (0, 0), (0, 0)])
        self.assertEqual(seen(3, (0, 0), runs), [1, 1, 2, 2, 3, 3])

    def test_the_same_run_again_and_again(self):
        run = whole(1)
        self.assertEqual(shown_by(2, (0, 0), [run] * 12), [None, None, (0, 0), (0, 0)])
        self.assertEqual(seen(2, (0, 0), [run] * 12), [0, 0, 12, 12])

    def test_an_unread_page_may_be_sure(self):
        run = [(2, None), BLANK, (None, 7)]
        self.assertEqual(shown_by(4, (0, 0), [run]), [None, None, (0, 0), (0, 0), (0, 1), (0, 1), (0, 2), (0, 2)])
        self.assertEqual(seen(4, (0, 0), [run]), [0, 0, 1, 1, 1, 1, 1, 1])

    def test_an_unread_page_may_be_unsure(self):
        self.assertEqual(seen(3, (0, 0), [[BLANK]]), [0] * 6)
        self.assertEqual(gaps(3, (0, 0), [[BLANK]]), [(0, 5)])
        self.assertEqual(seen(3, (1, 0), [[(0, None)]]), [1, 0, 0, 0, 0, 0])
        self.assertEqual(gaps(3, (1, 0), [[(0, None)]]), [(1, 5)])
        self.assertEqual(seen(3, (1, 0), [[(4, None)]]), [0, 0, 0, 0, 1, 1])

    def test_a_double_shows_a_front_and_a_back(self):
        self.assertEqual(shown_by(2, (1, 0), [[(0, 3)]]), [(0, 0), None, None, (0, 0)])
        self.assertEqual(gaps(2, (1, 0), [[(0, 3)]]), [(1, 2)])
        self.assertEqual(stacks(2, (1, 0), [[(0, 3)]], 2), [(0, 1)])
        self.assertEqual(stacks(2, (1, 0), [[(0, 3)]], 1), [(0, 0), (1, 1)])

    def test_what_is_sure_depends_on_the_rule(self):
        run = [(0, 1), BLANK, (4, 5)]
        self.assertEqual(gaps(3, (0, 0), [run]), [])
        run = [(0, 1), BLANK, (6, 7)]
        self.assertEqual(gaps(4, (0, 1), [run]), [(2, 5)])
        self.assertEqual(gaps(4, (1, 0), [run]), [(3, 4)])

    def test_gaps_at_the_begin_in_the_middle_at_the_end(self):
        self.assertEqual(gaps(5, (0, 0), [whole(1, 2, 3, 4)]), [(0, 1)])
        self.assertEqual(gaps(5, (0, 0), [whole(0, 1), whole(3, 4)]), [(4, 5)])
        self.assertEqual(gaps(5, (0, 0), [whole(0, 1, 2)]), [(6, 9)])
        self.assertEqual(gaps(5, (0, 0), [whole(1), whole(3)]), [(0, 1), (4, 5), (8, 9)])
        self.assertEqual(gaps(5, (0, 0), [whole(0, 1, 2, 3, 4)]), [])
        self.assertEqual(gaps(1, (0, 0), []), [(0, 1)])

    def test_gaps_of_one_page(self):
        self.assertEqual(gaps(4, (3, 3), [[(0, None)], [(None, 3)], [(4, None)], [(None, 7)]]), [(1, 2), (5, 6)])
        self.assertEqual(gaps(2, (3, 3), [[(0, None)], [(2, None)]]), [(1, 1)])
        self.assertEqual(gaps(2, (3, 3), [[(None, 1)], [(None, 3)]]), [(2, 2)])

    def test_the_largest_book(self):
        runs = [whole(*range(20)), whole(*range(10, 30))]
        self.assertEqual(seen(30, (3, 3), runs), [1] * 20 + [2] * 20 + [1] * 20)
        self.assertEqual(shown_by(30, (3, 3), runs)[19:21], [(0, 9), (0, 10)])
        self.assertEqual(shown_by(30, (3, 3), runs)[39:41], [(0, 19), (1, 10)])
        self.assertEqual(gaps(30, (3, 3), runs), [])


class StacksKnownTest(unittest.TestCase):
    def test_no_gaps_no_stacks(self):
        for size in (1, 2, 3):
            self.assertEqual(stacks(3, (0, 0), [whole(0, 1, 2)], size), [])

    def test_sizes_of_a_book_without_runs(self):
        self.assertEqual(stacks(5, (0, 0), [], 1), [(0, 0), (1, 1), (2, 2), (3, 3), (4, 4)])
        self.assertEqual(stacks(5, (0, 0), [], 2), [(0, 1), (2, 3), (4, 4)])
        self.assertEqual(stacks(5, (0, 0), [], 3), [(0, 2), (3, 4)])
        self.assertEqual(stacks(5, (0, 0), [], 4), [(0, 3), (4, 4)])
        self.assertEqual(stacks(5, (0, 0), [], 5), [(0, 4)])
        self.assertEqual(stacks(30, (0, 0), [], 29), [(0, 28), (29, 29)])
        self.assertEqual(stacks(30, (0, 0), [], 30), [(0, 29)])

    def test_from_a_wanted_sheet_to_a_wanted_sheet(self):
        runs = [whole(0), whole(2, 3), whole(5)]
        self.assertEqual(stacks(7, (0, 0), runs, 7), [(1, 6)])
        self.assertEqual(stacks(7, (0, 0), runs, 6), [(1, 6)])
        self.assertEqual(stacks(7, (0, 0), runs, 5), [(1, 4), (6, 6)])
        self.assertEqual(stacks(7, (0, 0), runs, 4), [(1, 4), (6, 6)])
        self.assertEqual(stacks(7, (0, 0), runs, 3), [(1, 1), (4, 6)])
        self.assertEqual(stacks(7, (0, 0), runs, 2), [(1, 1), (4, 4), (6, 6)])
        self.assertEqual(stacks(7, (0, 0), runs, 1), [(1, 1), (4, 4), (6, 6)])

    def test_one_page_that_is_not_sure_is_enough(self):
        self.assertEqual(stacks(3, (3, 3), [whole(0, 1), [(4, None)]], 1), [])
        self.assertEqual(stacks(3, (3, 3), [whole(0, 2), [(2, None)]], 1), [(1, 1)])
        self.assertEqual(stacks(3, (3, 3), [whole(0, 2), [(None, 3)]], 1), [(1, 1)])
        self.assertEqual(stacks(3, (3, 3), [whole(0, 2), [(None, 3)], [(2, None)]], 1), [])


class SmallTest(unittest.TestCase):
    """Against all readings told one by one."""

    def compare(self, sheets, rule, runs):
        shown = brute.shown_of(sheets, rule, runs)
        counts = [len(scans) for scans in shown]
        self.assertEqual(shown_by(sheets, rule, runs), [min(scans, default=None) for scans in shown])
        self.assertEqual(seen(sheets, rule, runs), counts)
        self.assertEqual(gaps(sheets, rule, runs), brute.gaps_of(counts))
        for size in range(1, sheets + 1):
            self.assertEqual(stacks(sheets, rule, runs, size), brute.stacks_of(counts, size))
        return counts

    def test_one_run(self):
        for sheets in (1, 2, 3):
            for many in (0, 1, 2):
                for run in itertools.product(brute.all_scans(sheets), repeat=many):
                    table = brute.readings_by_rule(sheets, list(run))
                    for rule in ((0, 0), (0, 2), (1, 0), (3, 3)):
                        if table[rule]:
                            with self.subTest(sheets=sheets, rule=rule, run=run):
                                self.compare(sheets, rule, [list(run)])

    def test_several_runs(self):
        choice = random.Random(5)
        met = set()
        for sheets in (2, 3, 4, 5, 6):
            for _ in range(60):
                rule = choice.choice(brute.RULES)
                runs = [self.some_run(sheets, rule, choice) for _ in range(choice.choice((2, 3, 4, 12)))]
                with self.subTest(sheets=sheets, rule=rule, runs=runs):
                    met.update(min(count, 2) for count in self.compare(sheets, rule, runs))
        self.assertEqual(met, {0, 1, 2})

    def some_run(self, sheets, rule, choice):
        """A run that has a reading by the rule."""
        many = choice.randrange(min(sheets, 3) + 1)
        rows = [row for row in brute.ordered(sheets, many) if row[1] <= rule[0] and row[2] <= rule[1]]
        return brute.hidden(choice.choice(rows)[0], choice)

    def test_stacks_of_any_wanted_sheets(self):
        for sheets in range(1, 8):
            for shown in itertools.product((False, True), repeat=sheets):
                runs = [whole(sheet) for sheet in range(sheets) if shown[sheet]]
                counts = [int(shown[page // 2]) for page in range(2 * sheets)]
                for size in range(1, sheets + 1):
                    with self.subTest(shown=shown, size=size):
                        self.assertEqual(stacks(sheets, (0, 0), runs, size), brute.stacks_of(counts, size))


class LongTest(unittest.TestCase):
    def test_pages_of_filled_runs_are_the_sure_ones(self):
        checked = 0
        cases = list(brute.long_cases())
        for rule in ((1, 2), (3, 3)):
            for sheets in (30, 26, 24):
                runs = [run for many, run in cases if many == sheets and filled(sheets, rule, run) is not None][:12]
                sides = [
                    (page, number, at)
                    for number, run in enumerate(runs)
                    for at, places in enumerate(brute.Counted(sheets, rule, run).could())
                    for page in self.sure(places)
                ]
                checked += len(sides)
                found = [
                    sorted((number, at) for shown, number, at in sides if shown == page) for page in range(2 * sheets)
                ]
                self.assertEqual(shown_by(sheets, rule, runs), [min(scans, default=None) for scans in found])
                self.assertEqual(seen(sheets, rule, runs), [len(scans) for scans in found])
        self.assertGreater(checked, 200)

    def sure(self, places):
        sides = zip(*[brute.pages(place) for place in places])
        return [side[0] for side in sides if len(set(side)) == 1]


if __name__ == "__main__":
    unittest.main()
