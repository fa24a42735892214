import unittest

from guesshush.errors import GuessError, NotValid


class ErrorsTest(unittest.TestCase):
    """Promise [2]."""

    def test_what_they_derive_from(self):
        self.assertEqual(GuessError.__bases__, (ValueError,))
        self.assertEqual(NotValid.__bases__, (GuessError,))

    def test_they_are_made_without_an_argument(self):
        for error in (GuessError, NotValid):
            self.assertIsInstance(error(), error)
            self.assertEqual(error().args, ())
            with self.assertRaises(TypeError):
                error("why")

    def test_they_are_caught_as_value_errors(self):
        for error in (GuessError, NotValid):
            with self.assertRaises(ValueError):
                raise error()


if __name__ == "__main__":
    unittest.main()
