"""Point 2's row of Rests."""

import unittest
from math import gcd

from checks import BIG, Checks
from waysum.errors import NoWorth
from waysum.kinds import Rests


def told(rests):
    """The number by whose bits these rests are told."""
    return sum(2 ** each for each in set(rests))


def rests_of(worth, m):
    return [each for each in range(m) if worth // 2 ** each % 2 == 1]


def sums_of_one_of_each(one, other, m):
    return told([(a + b) % m for a in rests_of(one, m) for b in rests_of(other, m)])


class TheirMaking(Checks):
    def test_by_1_to_12(self):
        for m in range(1, 13):
            self.assertIsInstance(Rests(m), Rests)

    def test_by_other_numbers_refused(self):
        for m in (0, 13, 14, 100, -1, -2, -12, BIG, -BIG):
            self.refused(NoWorth, Rests, m)


class OfRests(Checks):
    def test_worths(self):
        for m in range(1, 13):
            kind = Rests(m)
            self.are_worths(kind, range(2 ** m))
            self.are_no_worths(kind, [None, -1, -2, -BIG, 2 ** m, 2 ** m + 1, 2 ** 13, 10 ** 9, BIG])
            self.are_no_worths(kind, [(0, 1), (1, 1), (1, 2), (2, 4), (0, 0), (1, -1), (BIG, BIG - 1)])

    def test_none_and_rest(self):
        for m in range(1, 13):
            self.same(Rests(m).none(), 0)
            self.same(Rests(m).rest(), 1)

    def test_some_by_hand(self):
        by_one = Rests(1)
        self.either_order(by_one.together, 0, 1, 1)
        self.either_order(by_one.behind, 0, 1, 0)
        self.either_order(by_one.behind, 1, 1, 1)
        by_five = Rests(5)
        self.either_order(by_five.together, told([0, 2]), told([2, 3]), told([0, 2, 3]))
        self.either_order(by_five.behind, told([1, 4]), told([2, 3]), told([3, 4, 1, 2]))
        self.either_order(by_five.behind, told([4]), told([4]), told([3]))
        by_twelve = Rests(12)
        self.either_order(by_twelve.behind, told([11]), told([11]), told([10]))
        self.either_order(by_twelve.behind, told([6]), told([6]), told([0]))
        self.either_order(by_twelve.behind, told([5, 7]), told([0, 7]), told([5, 7, 0, 2]))
        self.either_order(by_twelve.behind, 4095, 1, 4095)
        self.either_order(by_twelve.behind, 4095, 4095, 4095)
        self.either_order(by_twelve.behind, 4095, 0, 0)

    def test_together_and_behind_by_few_whole(self):
        for m in range(1, 6):
            kind = Rests(m)
            for one in range(2 ** m):
                for other in range(2 ** m):
                    both = told(rests_of(one, m) + rests_of(other, m))
                    self.same(kind.together(one, other), both)
                    self.same(kind.behind(one, other), sums_of_one_of_each(one, other, m))

    def test_together_and_behind_by_many_here_and_there(self):
        for m in range(6, 13):
            kind = Rests(m)
            for step in range(300):
                one = step * 97 % 2 ** m
                other = (step * 1009 + 31) % 2 ** m
                both = told(rests_of(one, m) + rests_of(other, m))
                self.either_order(kind.together, one, other, both)
                self.either_order(kind.behind, one, other, sums_of_one_of_each(one, other, m))

    def test_rounds_by_hand(self):
        for m, one, wanted in [
            (1, [], [0]), (1, [0], [0]), (5, [], [0]), (5, [0], [0]), (5, [2], [0, 1, 2, 3, 4]), (6, [2], [0, 2, 4]),
            (6, [3], [0, 3]), (6, [2, 3], [0, 1, 2, 3, 4, 5]), (6, [0, 4], [0, 2, 4]), (12, [11], list(range(12))),
            (12, [8], [0, 4, 8]), (12, [6, 8], [0, 2, 4, 6, 8, 10]), (12, [], [0]),
        ]:
            with self.subTest(m=m, one=one):
                self.same(Rests(m).rounds(told(one)), told(wanted))

    def test_rounds_of_each_worth(self):
        # By m, sums of any number of rests are just the multiples of what divides them all and m.
        for m in range(1, 13):
            kind = Rests(m)
            for one in range(2 ** m):
                self.same(kind.rounds(one), told(range(0, m, gcd(m, *rests_of(one, m)))))


if __name__ == "__main__":
    unittest.main()
