"""What the tests share: the eight refusals, numbers of 60 figures, and checks of what is told."""

import unittest

from waysum import errors

EIGHT = (
    errors.NoNet, errors.NoWorth, errors.NoPlace, errors.NoRoad,
    errors.NoSteps, errors.NoPick, errors.NoSum, errors.NoWay,
)

# The greatest number of 60 figures; its lower neighbours are used as well.
BIG = 10 ** 60 - 1


class Checks(unittest.TestCase):
    def same(self, told, wanted):
        # == alone would take True for 1 and 1.0 for 1.
        self.assertIs(type(told), type(wanted), (told, wanted))
        self.assertEqual(told, wanted)
        if isinstance(wanted, tuple):
            for part in told:
                self.assertIs(type(part), int, told)

    def same_rows(self, told, wanted):
        self.assertIs(type(told), list)
        self.assertEqual(told, wanted)
        for row, wanted_row in zip(told, wanted):
            self.assertIs(type(row), list)
            for worth, wanted_worth in zip(row, wanted_row):
                self.same(worth, wanted_worth)

    def either_order(self, deed, one, other, wanted):
        with self.subTest(deed=deed.__name__, one=one, other=other):
            self.same(deed(one, other), wanted)
            self.same(deed(other, one), wanted)

    def are_worths(self, kind, somes):
        for some in somes:
            with self.subTest(worth=some):
                self.assertIs(kind.is_worth(some), True)

    def are_no_worths(self, kind, somes):
        for some in somes:
            with self.subTest(no_worth=some):
                self.assertIs(kind.is_worth(some), False)

    def refused(self, error, deed, *handed):
        with self.subTest(handed=handed):
            with self.assertRaises(errors.SumError) as caught:
                deed(*handed)
            self.assertIs(type(caught.exception), error)
            under = [each for each in EIGHT if isinstance(caught.exception, each)]
            self.assertEqual(under, [error])
