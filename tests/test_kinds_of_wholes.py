"""Point 2's rows of Fewest, Widest, Counted and Musts."""

import unittest

from checks import BIG, Checks
from waysum.kinds import Counted, Fewest, Musts, Widest

PAIRS = [(0, 1), (1, 1), (1, 2), (2, 4), (0, 0), (3, -1), (-1, 1), (BIG, BIG - 1)]


class OfFewest(Checks):
    def setUp(self):
        self.kind = Fewest()

    def test_worths(self):
        self.are_worths(self.kind, [None, 0, 1, 2, 10 ** 9, 10 ** 9 + 1, 10 ** 30, BIG - 1, BIG])
        self.are_no_worths(self.kind, [-1, -2, -BIG] + PAIRS)

    def test_none_and_rest(self):
        self.same(self.kind.none(), None)
        self.same(self.kind.rest(), 0)

    def test_together(self):
        for one, other, wanted in [
            (3, 5, 3), (4, 4, 4), (0, 7, 0), (0, 0, 0), (BIG, BIG - 1, BIG - 1), (0, BIG, 0),
            (None, 5, 5), (None, 0, 0), (None, BIG, BIG), (None, None, None),
        ]:
            self.either_order(self.kind.together, one, other, wanted)

    def test_behind(self):
        for one, other, wanted in [
            (3, 5, 8), (4, 4, 8), (0, 7, 7), (0, 0, 0), (BIG, 1, 10 ** 60), (BIG, BIG, 2 * 10 ** 60 - 2),
            (None, 5, None), (None, 0, None), (None, BIG, None), (None, None, None),
        ]:
            self.either_order(self.kind.behind, one, other, wanted)

    def test_rounds(self):
        for one in (None, 0, 1, 2, 9, BIG):
            self.same(self.kind.rounds(one), 0)


class OfWidest(Checks):
    def setUp(self):
        self.kind = Widest()

    def test_worths(self):
        self.are_worths(self.kind, [0, 1, 2, 10 ** 9 - 1, 10 ** 9])
        self.are_no_worths(self.kind, [None, -1, -2, -10 ** 9, 10 ** 9 + 1, 10 ** 30, BIG, -BIG] + PAIRS)

    def test_none_and_rest(self):
        self.same(self.kind.none(), 0)
        self.same(self.kind.rest(), 10 ** 9)

    def test_together(self):
        for one, other, wanted in [
            (3, 5, 5), (4, 4, 4), (0, 7, 7), (0, 0, 0),
            (10 ** 9, 0, 10 ** 9), (10 ** 9, 10 ** 9 - 1, 10 ** 9), (10 ** 9, 10 ** 9, 10 ** 9),
        ]:
            self.either_order(self.kind.together, one, other, wanted)

    def test_behind(self):
        for one, other, wanted in [
            (3, 5, 3), (4, 4, 4), (0, 7, 0), (0, 0, 0),
            (10 ** 9, 0, 0), (10 ** 9, 10 ** 9 - 1, 10 ** 9 - 1), (10 ** 9, 10 ** 9, 10 ** 9),
        ]:
            self.either_order(self.kind.behind, one, other, wanted)

    def test_rounds(self):
        for one in (0, 1, 2, 10 ** 9 - 1, 10 ** 9):
            self.same(self.kind.rounds(one), 10 ** 9)


class OfCounted(Checks):
    def setUp(self):
        self.kind = Counted()

    def test_worths(self):
        self.are_worths(self.kind, [-1, 0, 1, 2, 10 ** 9 + 1, 10 ** 30, BIG - 1, BIG])
        self.are_no_worths(self.kind, [None, -2, -3, -BIG] + PAIRS)

    def test_none_and_rest(self):
        self.same(self.kind.none(), 0)
        self.same(self.kind.rest(), 1)

    def test_together(self):
        for one, other, wanted in [
            (3, 5, 8), (4, 4, 8), (0, 7, 7), (0, 0, 0), (1, 1, 2), (BIG, 1, 10 ** 60), (BIG, BIG, 2 * BIG),
            (-1, 0, -1), (-1, 1, -1), (-1, 5, -1), (-1, BIG, -1), (-1, -1, -1),
        ]:
            self.either_order(self.kind.together, one, other, wanted)

    def test_behind(self):
        for one, other, wanted in [
            (3, 5, 15), (4, 4, 16), (0, 7, 0), (0, 0, 0), (1, 7, 7), (1, 1, 1), (BIG, 0, 0), (BIG, 1, BIG),
            (BIG, BIG, BIG * BIG), (-1, 0, 0), (-1, 1, -1), (-1, 5, -1), (-1, BIG, -1), (-1, -1, -1),
        ]:
            self.either_order(self.kind.behind, one, other, wanted)

    def test_rounds(self):
        self.same(self.kind.rounds(0), 1)
        for one in (-1, 1, 2, 9, BIG):
            self.same(self.kind.rounds(one), -1)


class OfMusts(Checks):
    def setUp(self):
        self.kind = Musts()

    def test_worths(self):
        self.are_worths(self.kind, [None, 0, 1, 2, 10 ** 9 + 1, 10 ** 30, BIG - 1, BIG])
        self.are_no_worths(self.kind, [-1, -2, -BIG] + PAIRS)

    def test_none_and_rest(self):
        self.same(self.kind.none(), None)
        self.same(self.kind.rest(), 0)

    def test_together(self):
        for one, other, wanted in [
            (0b0110, 0b0011, 0b0010), (5, 5, 5), (4, 3, 0), (0, 7, 0), (0, 0, 0), (BIG, 0, 0), (BIG, BIG, BIG),
            (2 ** 198 + 2 ** 64 + 1, 2 ** 198 + 2 ** 63 + 1, 2 ** 198 + 1),
            (None, 6, 6), (None, 0, 0), (None, BIG, BIG), (None, None, None),
        ]:
            self.either_order(self.kind.together, one, other, wanted)

    def test_behind(self):
        for one, other, wanted in [
            (0b0110, 0b0011, 0b0111), (5, 5, 5), (4, 3, 7), (0, 7, 7), (0, 0, 0), (BIG, 0, BIG), (BIG, BIG, BIG),
            (2 ** 198 + 2 ** 64 + 1, 2 ** 198 + 2 ** 63 + 1, 2 ** 198 + 2 ** 64 + 2 ** 63 + 1),
            (None, 6, None), (None, 0, None), (None, BIG, None), (None, None, None),
        ]:
            self.either_order(self.kind.behind, one, other, wanted)

    def test_rounds(self):
        for one in (None, 0, 1, 2, 9, BIG):
            self.same(self.kind.rounds(one), 0)


if __name__ == "__main__":
    unittest.main()
