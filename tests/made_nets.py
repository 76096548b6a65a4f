"""Nets that the tests share, the same ones in each run."""

import itertools
import random
from fractions import Fraction

import models
from waysum.kinds import Chances
from waysum.nets import Net

GREAT = 10 ** 30 - 1
LONG = 10 ** 12 - 1

WORTHS = {
    "Fewest": [None, 0, 0, 1, 2, 3, 7, 10, GREAT],
    "Widest": [0, 1, 2, 3, 5, 10 ** 9 - 1, 10 ** 9],
    "Counted": [0, 0, 1, 1, 2, 3, -1, GREAT],
    "Likeliest": [(0, 1), (1, 1), (1, 2), (1, 3), (2, 3), (3, 4), (LONG - 1, LONG), (1, LONG)],
    "Musts": [None, 0, 1, 2, 3, 5, 6, 7, 14, GREAT],
}


def name_of(model):
    return type(model.kind).__name__


def ends(source, places, many):
    return [(source.randrange(places), source.randrange(places)) for each in range(many)]


def chances_for(source, pairs, least_lacking):
    """Shares for roads with these ends; what goes from a place lacks at least so many of its parts to 1."""
    going = {}
    for start, end in pairs:
        going.setdefault(start, []).append(end)
    roads = []
    for start, all_ends in going.items():
        parts = [source.randrange(4) for each in all_ends]
        below = max(1, sum(parts) + max(least_lacking, source.choice([0, 0, 1, 5])))
        for end, part in zip(all_ends, parts):
            share = Fraction(part, below)
            roads.append((start, end, (share.numerator, share.denominator)))
    source.shuffle(roads)
    return roads


def roads_for(model, source, pairs, least_lacking=0):
    if isinstance(model.kind, Chances):
        return chances_for(source, pairs, least_lacking)
    if isinstance(model, models.OfRests):
        worths = [0, 1, 2 ** model.m // 3] + [2 ** each for each in range(model.m)]
        return [(start, end, source.choice(worths)) for start, end in pairs]
    return [(start, end, source.choice(WORTHS[name_of(model)])) for start, end in pairs]


def nets_of(model, many, most_places=8, seed=7, least_lacking=0):
    """So many nets of the kind, of few roads and of many."""
    source = random.Random(f"{name_of(model)} {seed}")
    made = []
    for each in range(many):
        places = source.randint(1, most_places)
        pairs = ends(source, places, source.randint(0, min(64, 3 * places)))
        made.append(Net(model.kind, places, roads_for(model, source, pairs, least_lacking)))
    return made


def edge_nets(model, least_lacking=0):
    """One place and eight, without roads and with 64, with rings at a place and roads alike."""
    source = random.Random(f"{name_of(model)} at the edges")
    each_pair = list(itertools.product(range(8), repeat=2))
    told = []
    for places, pairs in [
        (1, []), (8, []), (1, [(0, 0)]), (1, [(0, 0)] * 64), (8, each_pair), (8, [(0, 7)] * 64), (8, [(3, 3)] * 64),
        (8, [(0, 1)] * 3 + [(1, 7)] * 3 + [(1, 1)] * 2), (8, [(at, at + 1) for at in range(7)] * 9 + [(7, 0)]),
        (8, ends(source, 8, 64)), (2, ends(source, 2, 64)),
    ]:
        told.append(Net(model.kind, places, roads_for(model, source, pairs, least_lacking)))
    return told


def long_shares(seed):
    """64 roads, one for each ordered pair of eight places, with shares of 12 figures above and below."""
    source = random.Random(seed)
    roads = []
    for start, end in itertools.product(range(8), repeat=2):
        below = source.randrange(10 ** 12 - 10 ** 11, 10 ** 12)
        share = Fraction(below // 9 + source.randrange(10 ** 9), below)
        roads.append((start, end, (share.numerator, share.denominator)))
    return roads
