"""Ways picked: a way whose worth is the sum, for the kinds of which one best way has it."""

from waysum.errors import NoPick, NoWay
from waysum.nets import check_place


def way_for(net, place, other):
    check_place(net, place)
    check_place(net, other)
    if not net.kind().picks():
        raise NoPick("the kind picks no way")
    ways = best_ways(net, place)
    if other not in ways:
        raise NoWay(f"no way leads from place {place} to place {other}")
    return ways[other]


def best_ways(net, start):
    # In these kinds no road betters a way. So the best place not yet settled is reached best already,
    # and since each way is a settled one and a road to a place not yet settled, it has no place twice.
    kind = net.kind()
    reached = {start: (kind.rest(), [])}
    settled = {}
    while len(reached) > 0:
        here = best_place(kind, reached)
        found = reached.pop(here)
        settled[here] = found[1]
        for number, road in enumerate(net.roads()):
            if road[0] == here and road[1] not in settled:
                offer(kind, reached, road[1], kind.behind(found[0], road[2]), found[1] + [number])
    return settled


def best_place(kind, reached):
    best = None
    for place in reached:
        if best is None or betters(kind, reached[place][0], reached[best][0]):
            best = place
    return best


def betters(kind, worth, other):
    return worth != other and kind.together(worth, other) == worth


def offer(kind, reached, place, worth, way):
    if worth == kind.none():
        return
    if place not in reached or betters(kind, worth, reached[place][0]):
        reached[place] = (worth, way)
