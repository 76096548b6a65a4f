"""Nets: some places, and roads between them, each of some worth."""

from waysum.errors import NoNet, NoPlace, NoWorth

MOST_PLACES = 8
MOST_ROADS = 64


def check_numbers(places, roads):
    if places < 1 or places > MOST_PLACES:
        raise NoNet(f"a net has 1 to 8 places, not {places}")
    if len(roads) > MOST_ROADS:
        raise NoNet("a net has at most 64 roads")


def check_ends(places, roads):
    for number, road in enumerate(roads):
        if not (0 <= road[0] < places and 0 <= road[1] < places):
            raise NoNet(f"an end of road {number} is no place")


def check_starts(kind, places, roads):
    for place in range(places):
        if not kind.may_start_together([road[2] for road in roads if road[0] == place]):
            raise NoNet(f"the roads that go from place {place} come to more than 1")


def check_worths(kind, roads):
    for number, road in enumerate(roads):
        if not kind.is_worth(road[2]):
            raise NoWorth(f"the worth of road {number} is none of the kind")


def check_place(net, place):
    if place < 0 or place >= net.places():
        raise NoPlace(f"{place} is no place of the net")


class Net:
    def __init__(self, kind, places, roads):
        # NoNet goes ahead of NoWorth, so the worths are asked last.
        check_numbers(places, roads)
        check_ends(places, roads)
        check_starts(kind, places, roads)
        check_worths(kind, roads)
        self.own_kind = kind
        self.how_many = places
        self.own_roads = tuple(roads)

    def kind(self):
        return self.own_kind

    def places(self):
        return self.how_many

    def roads(self):
        return list(self.own_roads)
