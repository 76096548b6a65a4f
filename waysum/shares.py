"""Shares: pairs of whole numbers in lowest terms, the second above 0; 0 is (0, 1)."""


def divisor(first, second):
    # A loop, since numbers of 60 figures may take some hundred steps.
    while second > 0:
        left = first % second
        first = second
        second = left
    return first


def is_share(some):
    # The sign is asked first: the divisor is told only of a second number above 0.
    return isinstance(some, tuple) and some[1] > 0 and divisor(some[0], some[1]) == 1


def lowest(first, second):
    common = divisor(first, second)
    return (first // common, second // common)


def added(one, other):
    return lowest(one[0] * other[1] + other[0] * one[1], one[1] * other[1])


def multiplied(one, other):
    # Crosswise ahead of the product: the divisor of a long and a short number is found far sooner.
    left = lowest(one[0], other[1])
    right = lowest(other[0], one[1])
    return (left[0] * right[0], left[1] * right[1])


def greater(one, other):
    # Both second numbers are above 0, so the crosswise products compare like the shares.
    if one[0] * other[1] < other[0] * one[1]:
        return other
    return one


def lacking_to_one(share):
    return lowest(share[1] - share[0], share[1])
