"""The kinds of worth: what ways side by side, ways one behind the other, and rings come to."""

from waysum.errors import NoSum, NoWorth
from waysum.shares import added, greater, is_share, lacking_to_one, multiplied

WIDEST = 1000000000
MOST_RESTS = 12


def is_from(some, least):
    return isinstance(some, int) and some >= least


def raised(rests, by, m):
    # What is pushed beyond bit m - 1 comes in again from bit 0, as rests do.
    pushed = rests << by
    return pushed & ((1 << m) - 1) | pushed >> m


class Kind:
    def none(self):
        raise NotImplementedError("each kind tells its own")

    def rest(self):
        raise NotImplementedError("each kind tells its own")

    def is_worth(self, some):
        raise NotImplementedError("each kind tells its own")

    def together(self, one, other):
        raise NotImplementedError("each kind tells its own")

    def behind(self, one, other):
        raise NotImplementedError("each kind tells its own")

    # Where going round never betters a way, the best is not to go round at all.
    def rounds(self, one):
        return self.rest()

    def picks(self):
        return False

    # Asked of all roads that go from one place, ahead of whether what each has is a worth.
    def may_start_together(self, somes):
        return True


class Fewest(Kind):
    def none(self):
        return None

    def rest(self):
        return 0

    def is_worth(self, some):
        return some is None or is_from(some, 0)

    def together(self, one, other):
        if one is None:
            return other
        if other is None:
            return one
        return min(one, other)

    def behind(self, one, other):
        if one is None or other is None:
            return None
        return one + other

    def picks(self):
        return True


class Widest(Kind):
    def none(self):
        return 0

    def rest(self):
        return WIDEST

    def is_worth(self, some):
        return is_from(some, 0) and some <= WIDEST

    def together(self, one, other):
        return max(one, other)

    def behind(self, one, other):
        return min(one, other)

    def picks(self):
        return True


class Counted(Kind):
    def none(self):
        return 0

    def rest(self):
        return 1

    def is_worth(self, some):
        return is_from(some, -1)

    def together(self, one, other):
        if one == -1 or other == -1:
            return -1
        return one + other

    def behind(self, one, other):
        # 0 goes ahead of endless: behind no way at all there is nothing to count.
        if one == 0 or other == 0:
            return 0
        if one == -1 or other == -1:
            return -1
        return one * other

    def rounds(self, one):
        if one == 0:
            return 1
        return -1


class Likeliest(Kind):
    def none(self):
        return (0, 1)

    def rest(self):
        return (1, 1)

    def is_worth(self, some):
        return is_share(some) and 0 <= some[0] <= some[1]

    def together(self, one, other):
        return greater(one, other)

    def behind(self, one, other):
        return multiplied(one, other)

    def picks(self):
        return True


class Chances(Kind):
    def none(self):
        return (0, 1)

    def rest(self):
        return (1, 1)

    def is_worth(self, some):
        return is_share(some) and some[0] >= 0

    def together(self, one, other):
        return added(one, other)

    def behind(self, one, other):
        return multiplied(one, other)

    def rounds(self, one):
        lacking = lacking_to_one(one)
        if lacking[0] <= 0:
            # The share isn't named: Python turns no number of some thousand figures into a text.
            raise NoSum("nothing is lacking to 1")
        # 1 by a share is that share turned over.
        return (lacking[1], lacking[0])

    def may_start_together(self, somes):
        all_of_them = self.none()
        for some in somes:
            if is_share(some):
                all_of_them = added(all_of_them, some)
        return lacking_to_one(all_of_them)[0] >= 0


class Musts(Kind):
    def none(self):
        return None

    def rest(self):
        return 0

    def is_worth(self, some):
        return some is None or is_from(some, 0)

    def together(self, one, other):
        if one is None:
            return other
        if other is None:
            return one
        return one & other

    def behind(self, one, other):
        if one is None or other is None:
            return None
        return one | other


class Rests(Kind):
    def __init__(self, m):
        if m < 1 or m > MOST_RESTS:
            raise NoWorth(f"rests are told by 1 to 12, not by {m}")
        self.m = m

    def none(self):
        return 0

    def rest(self):
        return 1

    def is_worth(self, some):
        return is_from(some, 0) and some < 1 << self.m

    def together(self, one, other):
        return one | other

    def behind(self, one, other):
        sums = 0
        for by in range(self.m):
            if one >> by & 1:
                sums = sums | raised(other, by, self.m)
        return sums

    def rounds(self, one):
        reached = self.none()
        longer = self.rest()
        # There are only m rests, so some round adds none.
        while longer != reached:
            reached = longer
            longer = self.together(reached, self.behind(reached, one))
        return reached
