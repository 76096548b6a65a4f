"""Point 11 and the interface of waysum/errors.py."""

import unittest

from checks import EIGHT
from waysum import errors


class TheClasses(unittest.TestCase):
    def test_any_refusal_is_a_value_error(self):
        self.assertEqual(errors.SumError.__bases__, (ValueError,))

    def test_the_eight_go_by_their_names(self):
        names = ["NoNet", "NoWorth", "NoPlace", "NoRoad", "NoSteps", "NoPick", "NoSum", "NoWay"]
        self.assertEqual([each.__name__ for each in EIGHT], names)
        for name in names:
            self.assertEqual(getattr(errors, name).__name__, name)

    def test_each_stands_straight_under_sum_error(self):
        for each in EIGHT:
            with self.subTest(each=each):
                self.assertEqual(each.__bases__, (errors.SumError,))

    def test_none_of_the_eight_stands_under_another(self):
        for each in EIGHT:
            self.assertEqual([other for other in EIGHT if issubclass(each, other)], [each])

    def test_each_is_raised_and_taken_by_its_own_name_and_by_those_above(self):
        for each in EIGHT:
            for above in (each, errors.SumError, ValueError):
                with self.subTest(each=each, above=above):
                    with self.assertRaises(above):
                        raise each("words")

    def test_the_words_are_kept(self):
        for each in EIGHT + (errors.SumError,):
            self.assertEqual(str(each("some words")), "some words")


if __name__ == "__main__":
    unittest.main()
