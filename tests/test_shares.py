"""Shares, as the sentence below the table of point 2 tells them."""

import unittest
from fractions import Fraction
from math import gcd

from checks import BIG, Checks
from waysum import shares

# Two neighbours among the numbers of Fibonacci: of all numbers of 60 figures
# these take the search for a common divisor the most steps.
SLOW = [1, 1]
while SLOW[-1] + SLOW[-2] <= BIG:
    SLOW.append(SLOW[-1] + SLOW[-2])

SOME = [(a, b) for b in range(1, 8) for a in range(0, 10) if gcd(a, b) == 1]
SOME += [(BIG, BIG - 1), (BIG - 1, BIG), (1, BIG), (BIG, 1), (SLOW[-2], SLOW[-1])]


def pair(fraction):
    return (fraction.numerator, fraction.denominator)


class TheDivisor(Checks):
    def test_small_numbers(self):
        for first in range(-20, 21):
            for second in range(1, 21):
                self.same(shares.divisor(first, second), gcd(first, second))

    def test_numbers_of_60_figures(self):
        self.same(shares.divisor(BIG, BIG - 1), 1)
        self.same(shares.divisor(BIG - 1, BIG), 1)
        self.same(shares.divisor(BIG, BIG), BIG)
        self.same(shares.divisor(-BIG, BIG), BIG)
        self.same(shares.divisor(0, BIG), BIG)
        self.same(shares.divisor(SLOW[-1], SLOW[-2]), 1)
        self.same(shares.divisor(SLOW[-2] * 6, SLOW[-1] * 9), gcd(SLOW[-2] * 6, SLOW[-1] * 9))


class WhatIsAShare(Checks):
    def test_just_the_pairs_in_lowest_terms_with_a_second_above_nought(self):
        for first in range(-12, 13):
            for second in range(-12, 13):
                with self.subTest(first=first, second=second):
                    wanted = second > 0 and gcd(first, second) == 1
                    self.assertIs(shares.is_share((first, second)), wanted)

    def test_nought_is_told_in_one_way_alone(self):
        self.assertIs(shares.is_share((0, 1)), True)
        for second in (-BIG, -2, -1, 0, 2, 3, BIG):
            self.assertIs(shares.is_share((0, second)), False)

    def test_numbers_of_60_figures(self):
        for some in SOME:
            self.assertIs(shares.is_share(some), True)
        for some in ((BIG, BIG), (BIG, 3), (3, BIG), (BIG - 1, 2), (BIG, 1 - BIG), (BIG, -1), (BIG, 0)):
            self.assertIs(shares.is_share(some), False)

    def test_a_number_and_none_are_no_shares(self):
        for some in (None, 0, 1, -1, BIG, -BIG):
            self.assertIs(shares.is_share(some), False)


class Deeds(Checks):
    def test_lowest(self):
        for first in range(-12, 13):
            for second in range(1, 13):
                self.same(shares.lowest(first, second), pair(Fraction(first, second)))
        self.same(shares.lowest(0, BIG), (0, 1))
        self.same(shares.lowest(BIG, BIG), (1, 1))

    def test_added_multiplied_and_greater(self):
        for one in SOME:
            for other in SOME:
                left = Fraction(*one)
                right = Fraction(*other)
                self.same(shares.added(one, other), pair(left + right))
                self.same(shares.multiplied(one, other), pair(left * right))
                self.same(shares.greater(one, other), pair(max(left, right)))

    def test_lacking_to_one(self):
        for one in SOME:
            self.same(shares.lacking_to_one(one), pair(1 - Fraction(*one)))


if __name__ == "__main__":
    unittest.main()
