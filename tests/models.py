"""The kinds told a second time, in other terms than the program's, and what follows from them for nets.

Here shares are fractions, tolls and rests are sets, and endless is a part of a count beside the finite one.
"""

import itertools
from fractions import Fraction

from waysum import kinds


def bits_of(worth):
    return frozenset(at for at in range(worth.bit_length()) if worth >> at & 1)


def of_bits(bits):
    return sum(2 ** each for each in bits)


class OfFewest:
    """No length or one, in a tuple."""

    def __init__(self):
        self.kind = kinds.Fewest()
        self.none = ()
        self.rest = (0,)

    def into(self, worth):
        return () if worth is None else (worth,)

    def back(self, lengths):
        return lengths[0] if lengths else None

    def together(self, one, other):
        return tuple(sorted(one + other)[:1])

    def behind(self, one, other):
        return tuple(a + b for a in one for b in other)


class OfWidest:
    def __init__(self):
        self.kind = kinds.Widest()
        self.none = 0
        self.rest = 10 ** 9

    def into(self, worth):
        return worth

    def back(self, width):
        return width

    def together(self, one, other):
        return sorted([one, other])[1]

    def behind(self, one, other):
        return sorted([one, other])[0]


class OfCounted:
    """A pair: the finite part, and how many times endless beside it."""

    def __init__(self):
        self.kind = kinds.Counted()
        self.none = (0, 0)
        self.rest = (1, 0)

    def into(self, worth):
        return (0, 1) if worth == -1 else (worth, 0)

    def back(self, count):
        return -1 if count[1] > 0 else count[0]

    def together(self, one, other):
        return (one[0] + other[0], one[1] + other[1])

    def behind(self, one, other):
        return (one[0] * other[0], one[0] * other[1] + one[1] * other[0] + one[1] * other[1])


class OfShares:
    def __init__(self):
        self.none = Fraction(0)
        self.rest = Fraction(1)

    def into(self, worth):
        return Fraction(*worth)

    def back(self, fraction):
        return (fraction.numerator, fraction.denominator)

    def behind(self, one, other):
        return one * other


class OfLikeliest(OfShares):
    def __init__(self):
        super().__init__()
        self.kind = kinds.Likeliest()

    def together(self, one, other):
        return max(one, other)


class OfChances(OfShares):
    def __init__(self):
        super().__init__()
        self.kind = kinds.Chances()

    def together(self, one, other):
        return one + other


class OfMusts:
    """No set of tolls or one, in a tuple."""

    def __init__(self):
        self.kind = kinds.Musts()
        self.none = ()
        self.rest = (frozenset(),)

    def into(self, worth):
        return () if worth is None else (bits_of(worth),)

    def back(self, tolls):
        return of_bits(tolls[0]) if tolls else None

    def together(self, one, other):
        both = one + other
        return (frozenset.intersection(*both),) if both else ()

    def behind(self, one, other):
        return tuple(a | b for a in one for b in other)


class OfRests:
    def __init__(self, m):
        self.m = m
        self.kind = kinds.Rests(m)
        self.none = frozenset()
        self.rest = frozenset([0])

    def into(self, worth):
        return bits_of(worth)

    def back(self, rests):
        return of_bits(rests)

    def together(self, one, other):
        return one | other

    def behind(self, one, other):
        return frozenset((a + b) % self.m for a in one for b in other)


def seven():
    """A model of each of the seven kinds."""
    return [OfFewest(), OfWidest(), OfCounted(), OfLikeliest(), OfChances(), OfMusts(), OfRests(12)]


def walked(model, net, place, row):
    """Where the row leads and its worth, or None where it is no way."""
    roads = net.roads()
    worth = model.rest
    for number in row:
        start, end, some = roads[number]
        if start != place:
            return None
        place = end
        worth = model.behind(worth, model.into(some))
    return (place, worth)


def by_all_rows(model, net, place, other, steps):
    """All rows of so many roads gone through one by one, ways or not."""
    worth = model.none
    for row in itertools.product(range(len(net.roads())), repeat=steps):
        found = walked(model, net, place, row)
        if found is not None and found[0] == other:
            worth = model.together(worth, found[1])
    return model.back(worth)


def by_each_step(model, net, place):
    """For 0 steps and ever one more: what the ways from the place to each place come to, in the model's terms."""
    worths = [model.none] * net.places()
    worths[place] = model.rest
    roads = [(start, end, model.into(some)) for start, end, some in net.roads()]
    while True:
        yield list(worths)
        further = [model.none] * net.places()
        for start, end, some in roads:
            further[end] = model.together(further[end], model.behind(worths[start], some))
        worths = further


def table_by_steps(model, net):
    """For kinds in which a worth put together with itself stays as it is: so many steps that no more is added.

    Each rest at each place is a stand to come to, so for Rests fewer steps than places by m are enough.
    """
    enough = net.places() * getattr(model, "m", 1)
    rows = []
    for place in range(net.places()):
        sums = [model.none] * net.places()
        for worths in itertools.islice(by_each_step(model, net, place), enough):
            sums = [model.together(one, other) for one, other in zip(sums, worths)]
        rows.append([model.back(worth) for worth in sums])
    return rows


def leads(places, pairs):
    """From which place one comes to which, not going at all too."""
    reached = [[start == end for end in range(places)] for start in range(places)]
    for middle in [None] + list(range(places)):
        for start, end in itertools.product(range(places), repeat=2):
            straight = (start, end) in pairs
            through = middle is not None and reached[start][middle] and reached[middle][end]
            reached[start][end] = reached[start][end] or straight or through
    return reached


def table_of_counts(net):
    """Endless where a ring or an endless road lies on a way; else ways without a ring, one by one."""
    places = range(net.places())
    roads = [road for road in net.roads() if road[2] != 0]
    reached = leads(net.places(), {(start, end) for start, end, some in roads})
    endless = [(start, start) for start, end, some in roads if reached[end][start]]
    endless += [(start, end) for start, end, some in roads if some == -1]

    def count(place, other):
        if any(reached[place][start] and reached[end][other] for start, end in endless):
            return -1
        # Only from where the other is led to, so that the search meets no ring.
        found = 1 if place == other else 0
        for start, end, some in roads:
            if start == place and reached[end][other]:
                found += some * count(end, other)
        return found

    return [[count(place, other) for other in places] for place in places]


def chances_between(net):
    rows = [[Fraction(0)] * net.places() for place in range(net.places())]
    for start, end, some in net.roads():
        rows[start][end] += Fraction(*some)
    return rows


def is_without_end(net):
    """Whether there are places from each of which the roads to these same places come to just 1: each set is asked."""
    rows = chances_between(net)
    for many in range(1, net.places() + 1):
        for some in itertools.combinations(range(net.places()), many):
            if all(sum(rows[start][end] for end in some) == 1 for start in some):
                return True
    return False


def table_of_chances(net):
    """The sums S of the steps' rows R solve S = 1 + R S; solved by taking multiples of rows from rows."""
    size = net.places()
    between = chances_between(net)
    left = [[(start == end) - between[start][end] for end in range(size)] for start in range(size)]
    rows = [left[at] + [Fraction(int(at == end)) for end in range(size)] for at in range(size)]
    for at in range(size):
        lead = next(each for each in range(at, size) if rows[each][at] != 0)
        rows[at], rows[lead] = rows[lead], rows[at]
        rows[at] = [some / rows[at][at] for some in rows[at]]
        for each in range(size):
            if each != at:
                times = rows[each][at]
                rows[each] = [some - times * other for some, other in zip(rows[each], rows[at])]
    return [[(some.numerator, some.denominator) for some in row[size:]] for row in rows]


def table_of(model, net):
    """The table by another road than the program's. For Chances only where there is one."""
    if isinstance(model, OfCounted):
        return table_of_counts(net)
    if isinstance(model, OfChances):
        return table_of_chances(net)
    return table_by_steps(model, net)
