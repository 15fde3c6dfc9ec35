import unittest

from likefill import errors

NINE = ["NoSigns", "NoTerm", "NoText", "NoFilling", "NoStep", "NoCounts", "NoRow", "NoSide", "TooMuch"]


class Errors(unittest.TestCase):
    def classes(self):
        return [getattr(errors, name) for name in NINE]

    def test_any_refusal_stands_under_value_error(self):
        self.assertEqual(errors.LikeError.__bases__, (ValueError,))

    def test_each_stands_straight_under_any_refusal(self):
        for each in self.classes():
            self.assertEqual(each.__bases__, (errors.LikeError,), each)

    def test_none_stands_under_another_one(self):
        self.assertEqual(len(set(self.classes())), 9)
        for each in self.classes():
            for other in self.classes():
                self.assertEqual(issubclass(each, other), each is other)

    def test_names_are_their_own(self):
        for name in NINE + ["LikeError"]:
            self.assertEqual(getattr(errors, name).__name__, name)

    def test_made_of_nothing_and_of_a_text(self):
        for each in self.classes() + [errors.LikeError]:
            self.assertIsInstance(each(), ValueError)
            self.assertEqual(str(each("some words")), "some words")
            for made in (each(), each("some words")):
                with self.assertRaises(errors.LikeError) as caught:
                    raise made
                self.assertIs(caught.exception, made)


if __name__ == "__main__":
    unittest.main()
