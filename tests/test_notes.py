import copy
import random
import unittest

from pagefeeder.errors import BadRun, BadText, FeedError
from pagefeeder.notes import read, written

BLANK = (None, None)


class KnownTest(unittest.TestCase):
    def both(self, runs, text):
        self.assertEqual(written(runs), text)
        self.assertEqual(read(text), runs)

    def test_no_runs(self):
        self.both([], "")

    def test_runs_without_scans(self):
        self.both([[]], ".")
        self.both([[], []], ".\n.")
        self.both([[], [(0, 1)], []], ".\n0/1\n.")
        self.both([[]] * 12, "\n".join(["."] * 12))

    def test_the_documents_row(self):
        self.both([[(4, 5), (None, 7)]], "4/5 -/7")

    def test_none_at_each_side(self):
        self.both([[(None, 1), (0, None), BLANK]], "-/1 0/- -/-")

    def test_pages_of_one_and_two_figures(self):
        self.both([[(0, 1), (8, 9), (10, 11), (58, 59)]], "0/1 8/9 10/11 58/59")

    def test_twelve_runs_of_twenty_scans(self):
        run = [(2 * sheet, 2 * sheet + 1) for sheet in range(10, 30)]
        row = " ".join(f"{2 * sheet}/{2 * sheet + 1}" for sheet in range(10, 30))
        self.both([run] * 12, "\n".join([row] * 12))

    def test_any_numbers_of_one_or_two_figures_are_read(self):
        self.assertEqual(read("1/0"), [[(1, 0)]])
        self.assertEqual(read("99/98 5/5"), [[(99, 98), (5, 5)]])
        for number in range(100):
            self.both([[(number, None), (None, number)]], f"{number}/- -/{number}")

    def test_what_is_written_is_read_to_the_same(self):
        choice = random.Random(11)
        for _ in range(300):
            runs = [
                [
                    (choice.choice([None, *range(0, 60, 2)]), choice.choice([None, *range(1, 60, 2)]))
                    for _ in range(choice.choice((0, 1, 2, 19, 20)))
                ]
                for _ in range(choice.randrange(13))
            ]
            text = written(runs)
            self.assertEqual(read(text), runs)
            self.assertEqual(text.count("\n"), max(0, len(runs) - 1))

    def test_kinds(self):
        self.assertIs(written([[BLANK]]).__class__, str)
        runs = read("4/5 -/7\n.")
        self.assertIs(runs.__class__, list)
        for run in runs:
            self.assertIs(run.__class__, list)
        self.assertEqual([page.__class__ for page in runs[0][0]], [int, int])
        self.assertIs(runs[0][0].__class__, tuple)
        self.assertIs(read("").__class__, list)


class RefusedTextTest(unittest.TestCase):
    WRONG_SCANS = (
        "00/1", "0/01", "04/5", "4/05", "00/-", "-/00", "100/1", "0/101", "000/-", "-/999",
        "4", "4/", "/5", "/", "//", "4//5", "4/5/", "/4/5", "4/5/6", "45", "-", "--", "--/5", "4/--", "-4/5", "4/-5",
        "+4/5", "4/+5", "4-5", "4:5", "4,5", "4\\5", "(4,5)", "None/5", "4/None", "a/b", "4/x", "4_/5", "1_0/5", "4/5,",
        "./.", "4/.", "./5", "..", ".4/5", "4/5.", ". .", "4./5", "4.0/5", "0x4/5", "4/5;", "4e0/5",
    )  # fmt: skip
    BLANKS = (
        " ", " 4/5", "4/5 ", "4/5  -/7", "  ", "4 /5", "4/ 5", "- /5", " .", ". ", ". 4/5", "4/5 .", "4/5 . -/7",
        "\t", "4/5\t-/7", "\t4/5", "4/5\t", "4/5\u00a0-/7", "4/5\u2003-/7", "4/5\u3000-/7", "4/5\u200b-/7", "\ufeff4/5",
    )  # fmt: skip
    # Arabic, Devanagari, full-width and mathematical figures, a superscript, a circled one, a fraction;
    # a minus, a dash, a fraction's slash and a full-width one.
    LOOKALIKES = (
        "\u0664/5", "4/\u0665", "\u096a/5", "\uff14/5", "4/1\uff15", "\U0001d7d2/5", "\u00b2/5", "4/\u00b2",
        "1\u00b2/5", "\u2463/5", "\u00bd/5", "\u56db/5", "\u2212/5", "\u2013/5", "4/\u2014", "4\u20445",
        "4\u22155", "4\uff0f5", "\uff0e", "4/5\u0301",
    )  # fmt: skip
    LINE_ENDS = (
        "\r", "4/5\r", "\r4/5", "4/5\r-/7", "4/5\x0b-/7", "4/5\x0c-/7", "4/5\x1c-/7", "4/5\x85-/7", "4/5\u2028-/7",
        "4/5\u2029-/7", "4/5\x00",
    )  # fmt: skip

    def refused(self, text, row):
        with self.subTest(text=text):
            with self.assertRaises(FeedError) as caught:
                read(text)
            self.assertIs(caught.exception.__class__, BadText)
            self.assertEqual(caught.exception.row, row)

    def test_rows(self):
        for wrong in self.WRONG_SCANS + self.BLANKS + self.LOOKALIKES + self.LINE_ENDS:
            self.refused(wrong, 0)
            self.refused(wrong + "\n.", 0)
            self.refused(".\n" + wrong, 1)
            self.refused("4/5 -/7\n.\n" + wrong + "\n.", 2)
            self.refused(".\n" * 11 + wrong, 11)

    def test_a_wrong_scan_among_others(self):
        for wrong in self.WRONG_SCANS + self.LOOKALIKES + (".",):
            self.refused(wrong + " 4/5", 0)
            self.refused("4/5 " + wrong, 0)
            self.refused(".\n4/5 " + wrong + " -/7", 1)

    def test_empty_rows_and_line_ends_at_the_end(self):
        self.refused("\n", 0)
        self.refused("\n.", 0)
        self.refused(".\n", 1)
        self.refused("4/5 -/7\n", 1)
        self.refused(".\n\n.", 1)
        self.refused("4/5\n.\n\n", 2)
        self.refused("4/5\r\n4/5", 0)
        self.refused("4/5\n4/5\r\n", 1)

    def test_twelve_rows_and_more(self):
        self.assertEqual(read("\n".join(["."] * 12)), [[]] * 12)
        self.refused("\n".join(["."] * 13), 12)
        self.refused("\n".join(["4/5"] * 13), 12)
        self.refused("\n".join(["."] * 20), 12)
        self.refused(".\n" * 12, 12)
        self.refused(".\n" * 12 + "x", 12)

    def test_twenty_scans_and_more(self):
        row = " ".join(["-/-"] * 20)
        self.assertEqual(read(row), [[BLANK] * 20])
        self.refused(row + " -/-", 0)
        self.refused(".\n" + row + "\n" + row + " 4/5", 2)
        self.refused(" ".join(["4/5"] * 30), 0)

    def test_the_first_wrong_row_is_told(self):
        self.refused("x\n" + "\n".join(["."] * 13), 0)
        self.refused("\n".join(["."] * 5 + ["x"] + ["."] * 10), 5)
        self.refused("\n".join(["."] * 5 + ["x", "", "y"]), 5)
        self.refused(".\n" + " ".join(["4/5"] * 21) + "\nx", 1)

    def test_asked_again_the_same_is_told(self):
        for _ in range(2):
            self.refused(".\nx", 1)
            self.assertEqual(read("4/5"), [[(4, 5)]])


class RefusedRunsTest(unittest.TestCase):
    """Runs that would not be read to the same."""

    def refused(self, runs, number):
        with self.subTest(runs=runs):
            kept = copy.deepcopy(runs)
            with self.assertRaises(FeedError) as caught:
                written(runs)
            self.assertIs(caught.exception.__class__, BadRun)
            self.assertEqual(caught.exception.number, number)
            self.assertEqual(runs, kept)

    def test_thirteen_runs(self):
        self.refused([[]] * 13, 12)
        self.refused([[(4, 5)]] * 15, 12)

    def test_twenty_one_scans(self):
        self.refused([[BLANK] * 21], 0)
        self.refused([[], [BLANK] * 20, [BLANK] * 21], 2)

    def test_no_scans(self):
        for scan in ((), (4,), (None,), (4, 5, 6), (None, None, None), (-1, None), (None, -2), (100, None), (0, 101)):
            self.refused([[scan]], 0)
            self.refused([[], [(4, 5), scan]], 1)

    def test_the_first_is_told(self):
        self.refused([[], [()]] + [[]] * 12, 1)
        self.refused([[BLANK] * 21, [()]], 0)


class HandedInTest(unittest.TestCase):
    def test_what_is_handed_in_stays_as_it_was(self):
        runs = [[(4, 5), BLANK], []]
        self.assertEqual(written(runs), "4/5 -/-\n.")
        self.assertEqual(runs, [[(4, 5), BLANK], []])

    def test_changing_what_was_told_changes_nothing(self):
        text = "4/5\n.\n4/5"
        told = read(text)
        told[0].append("more")
        self.assertEqual(told, [[(4, 5), "more"], [], [(4, 5)]])
        told[1].append("more")
        told.clear()
        self.assertEqual(read(text), [[(4, 5)], [], [(4, 5)]])
        read("").append("more")
        self.assertEqual(read(""), [])


if __name__ == "__main__":
    unittest.main()
