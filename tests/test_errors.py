import unittest

from gapsalike.errors import GapsError


class TheError(unittest.TestCase):
    def test_it_is_a_value_error_with_a_reason(self):
        error = GapsError("outside")
        self.assertIsInstance(error, ValueError)
        self.assertEqual(error.reason, "outside")
        self.assertIn("reason", vars(error))

    def test_the_argument_is_called_reason(self):
        self.assertEqual(GapsError(reason="too long").reason, "too long")

    def test_it_is_caught_as_a_value_error_and_tells_why(self):
        with self.assertRaises(ValueError) as caught:
            raise GapsError("ended")
        self.assertEqual(caught.exception.reason, "ended")
        self.assertEqual(str(caught.exception), "ended")


if __name__ == "__main__":
    unittest.main()
