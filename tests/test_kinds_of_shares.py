"""Point 2's rows of Likeliest and Chances."""

import unittest
from fractions import Fraction
from math import gcd

from checks import BIG, Checks
from waysum.errors import NoSum
from waysum.kinds import Chances, Likeliest

NO_SHARES = [
    None, 0, 1, -1, 2, BIG, -BIG,
    (0, 2), (0, BIG), (2, 2), (2, 4), (3, 6), (6, 9), (4, 2), (BIG, BIG), (3, BIG), (BIG, 3), (BIG - 1, 2),
    (0, 0), (1, 0), (-1, 0), (BIG, 0), (0, -1), (1, -1), (-1, -1), (-1, -2), (1, -2), (3, -2), (BIG, -BIG),
    (-BIG, 1 - BIG),
]
BELOW_NOUGHT = [(-1, 1), (-1, 2), (-2, 1), (-3, 6), (-BIG, 1), (-1, BIG)]
UP_TO_ONE = [(0, 1), (1, 1), (1, 2), (2, 3), (4, 9), (1, BIG), (BIG - 1, BIG)]
ABOVE_ONE = [(2, 1), (3, 2), (9, 4), (BIG, 1), (BIG, BIG - 1), (BIG, 2)]


def small_shares(most):
    return [(a, b) for b in range(1, 8) for a in range(0, most * b + 1) if gcd(a, b) == 1]


def pair(fraction):
    return (fraction.numerator, fraction.denominator)


class OfLikeliest(Checks):
    def setUp(self):
        self.kind = Likeliest()

    def test_worths(self):
        self.are_worths(self.kind, UP_TO_ONE)
        self.are_no_worths(self.kind, NO_SHARES + BELOW_NOUGHT + ABOVE_ONE)

    def test_none_and_rest(self):
        self.same(self.kind.none(), (0, 1))
        self.same(self.kind.rest(), (1, 1))

    def test_together(self):
        for one, other, wanted in [
            ((1, 2), (1, 3), (1, 2)), ((2, 3), (3, 4), (3, 4)), ((1, 2), (1, 2), (1, 2)), ((0, 1), (1, 5), (1, 5)),
            ((0, 1), (0, 1), (0, 1)), ((1, 1), (0, 1), (1, 1)), ((1, 1), (BIG - 1, BIG), (1, 1)),
            ((BIG - 2, BIG - 1), (BIG - 1, BIG), (BIG - 1, BIG)), ((1, BIG), (1, BIG - 1), (1, BIG - 1)),
        ]:
            self.either_order(self.kind.together, one, other, wanted)

    def test_behind(self):
        for one, other, wanted in [
            ((1, 2), (1, 3), (1, 6)), ((2, 3), (3, 4), (1, 2)), ((1, 2), (1, 2), (1, 4)), ((0, 1), (1, 5), (0, 1)),
            ((0, 1), (0, 1), (0, 1)), ((1, 1), (0, 1), (0, 1)), ((1, 1), (3, 7), (3, 7)), ((1, 1), (1, 1), (1, 1)),
            ((BIG - 2, BIG - 1), (BIG - 1, BIG), (BIG - 2, BIG)), ((1, BIG), (1, BIG), (1, BIG * BIG)),
        ]:
            self.either_order(self.kind.behind, one, other, wanted)

    def test_many_small_shares(self):
        for one in small_shares(1):
            for other in small_shares(1):
                left = Fraction(*one)
                right = Fraction(*other)
                self.either_order(self.kind.together, one, other, pair(max(left, right)))
                self.either_order(self.kind.behind, one, other, pair(left * right))

    def test_rounds(self):
        for one in UP_TO_ONE:
            self.same(self.kind.rounds(one), (1, 1))


class OfChances(Checks):
    def setUp(self):
        self.kind = Chances()

    def test_worths(self):
        self.are_worths(self.kind, UP_TO_ONE + ABOVE_ONE)
        self.are_no_worths(self.kind, NO_SHARES + BELOW_NOUGHT)

    def test_none_and_rest(self):
        self.same(self.kind.none(), (0, 1))
        self.same(self.kind.rest(), (1, 1))

    def test_together(self):
        for one, other, wanted in [
            ((1, 2), (1, 3), (5, 6)), ((1, 2), (1, 2), (1, 1)), ((1, 6), (1, 3), (1, 2)), ((2, 3), (3, 4), (17, 12)),
            ((0, 1), (1, 5), (1, 5)), ((0, 1), (0, 1), (0, 1)), ((1, 1), (1, 1), (2, 1)), ((3, 2), (5, 2), (4, 1)),
            ((BIG - 1, BIG), (1, BIG), (1, 1)), ((BIG, 1), (BIG, 1), (2 * BIG, 1)),
            ((1, BIG), (1, BIG - 1), (2 * BIG - 1, BIG * (BIG - 1))),
        ]:
            self.either_order(self.kind.together, one, other, wanted)

    def test_behind(self):
        for one, other, wanted in [
            ((1, 2), (1, 3), (1, 6)), ((2, 3), (3, 4), (1, 2)), ((3, 2), (2, 3), (1, 1)), ((3, 2), (3, 2), (9, 4)),
            ((0, 1), (9, 5), (0, 1)), ((0, 1), (0, 1), (0, 1)), ((1, 1), (9, 5), (9, 5)), ((1, 1), (1, 1), (1, 1)),
            ((BIG - 2, BIG - 1), (BIG - 1, BIG), (BIG - 2, BIG)), ((BIG, 1), (1, BIG), (1, 1)),
            ((BIG, 1), (BIG, 1), (BIG * BIG, 1)),
        ]:
            self.either_order(self.kind.behind, one, other, wanted)

    def test_many_small_shares(self):
        for one in small_shares(2):
            for other in small_shares(2):
                left = Fraction(*one)
                right = Fraction(*other)
                self.either_order(self.kind.together, one, other, pair(left + right))
                self.either_order(self.kind.behind, one, other, pair(left * right))

    def test_rounds_below_one(self):
        for one, wanted in [
            ((0, 1), (1, 1)), ((1, 2), (2, 1)), ((1, 3), (3, 2)), ((2, 3), (3, 1)), ((3, 5), (5, 2)),
            ((1, BIG), (BIG, BIG - 1)), ((BIG - 1, BIG), (BIG, 1)), ((BIG - 2, BIG - 1), (BIG - 1, 1)),
            ((BIG // 3, BIG - 1), (BIG - 1, BIG - 1 - BIG // 3)),
        ]:
            with self.subTest(one=one):
                self.assertIs(self.kind.is_worth(one), True)
                self.same(self.kind.rounds(one), wanted)
        for one in small_shares(1):
            if one != (1, 1):
                self.same(self.kind.rounds(one), pair(1 / (1 - Fraction(*one))))

    def test_rounds_refuses_from_one_on(self):
        for one in [(1, 1)] + ABOVE_ONE:
            self.refused(NoSum, self.kind.rounds, one)

    def test_rounds_refuses_shares_of_thousands_of_figures(self):
        # As a kind's own sums may have them; Python turns no such number into a text.
        with self.assertRaises(NoSum):
            self.kind.rounds((10 ** 5000 + 1, 10 ** 5000))

    def test_a_refusal_leaves_nothing_behind(self):
        self.refused(NoSum, self.kind.rounds, (1, 1))
        self.same(self.kind.rounds((1, 2)), (2, 1))


if __name__ == "__main__":
    unittest.main()
