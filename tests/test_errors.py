import unittest

from pagefeeder import errors

PLAIN = ("BadBook", "BadRule", "BadSize", "BadBlind", "BadStack", "Busy", "NoSheet")
NUMBERED = ("BadScan", "BadReading", "BadRun")


class ErrorsTest(unittest.TestCase):
    def test_any_refusal_is_a_feed_error_and_a_value_error(self):
        self.assertEqual(errors.FeedError.__bases__, (ValueError,))
        for name in PLAIN + NUMBERED + ("BadText",):
            with self.subTest(name=name):
                self.assertEqual(getattr(errors, name).__bases__, (errors.FeedError,))

    def test_plain_refusals_can_be_raised(self):
        for name in PLAIN:
            with self.subTest(name=name):
                with self.assertRaises(errors.FeedError):
                    raise getattr(errors, name)("why")

    def test_number_is_set(self):
        for name in NUMBERED:
            with self.subTest(name=name):
                self.assertEqual(getattr(errors, name)(7).number, 7)

    def test_row_is_set(self):
        self.assertEqual(errors.BadText(3).row, 3)


if __name__ == "__main__":
    unittest.main()
