"""Point 9, and without of waysum/sums.py."""

import inspect
import itertools
import unittest

import models
from checks import BIG, Checks
from made_nets import GREAT, LONG, edge_nets, long_shares, name_of, nets_of
from waysum.errors import NoNet, NoPlace, NoSum
from waysum.kinds import Chances, Counted, Fewest, Likeliest, Musts, Rests, Widest
from waysum.nets import Net
from waysum.sums import table, without


def through_alone(model, net, place, one, other):
    """The ways from the one to the other with the place alone between, up to so many rounds at it, put together."""
    def put_together(start, end):
        worth = model.none
        for road in net.roads():
            if (road[0], road[1]) == (start, end):
                worth = model.together(worth, model.into(road[2]))
        return worth

    ring = put_together(place, place)
    toward = put_together(one, place)
    worth = put_together(one, other)
    for rounds in range(13):
        worth = model.together(worth, model.behind(toward, put_together(place, other)))
        toward = model.behind(toward, ring)
    return model.back(worth)


def taken_out_of(rows, place):
    return [row[:place] + row[place + 1:] for row in rows[:place] + rows[place + 1:]]


class PlacesTakenOut(Checks):
    def test_its_arguments(self):
        self.assertEqual(list(inspect.signature(without).parameters), ["net", "place"])

    def leaves(self, net, place, wanted):
        left = without(net, place)
        self.assertIsInstance(left, Net)
        self.same(left.places(), net.places() - 1)
        self.assertEqual(left.roads(), wanted)
        self.assertIs(type(left.kind()), type(net.kind()))

    def test_by_hand_without_a_ring(self):
        roads = [(2, 0, 3), (0, 1, 4), (1, 2, 6), (1, 0, 9), (0, 2, 7), (0, 1, 5)]
        for kind, wanted in [
            (Fewest(), [(0, 0, 13), (0, 1, 7), (1, 0, 3)]),
            (Widest(), [(0, 0, 5), (0, 1, 7), (1, 0, 3)]),
            (Counted(), [(0, 0, 81), (0, 1, 61), (1, 0, 3)]),
            (Musts(), [(0, 0, 13), (0, 1, 6), (1, 0, 3)]),
        ]:
            with self.subTest(kind=kind):
                self.leaves(Net(kind, 3, roads), 1, wanted)

    def test_by_hand_with_a_ring(self):
        for kind, roads, wanted in [
            (Fewest(), [(0, 1, 2), (1, 1, 5), (1, 2, 3)], [(0, 1, 5)]),
            (Widest(), [(0, 1, 2), (1, 1, 5), (1, 2, 3)], [(0, 1, 2)]),
            (Counted(), [(0, 1, 2), (1, 1, 5), (1, 2, 3), (0, 2, 4), (2, 0, 8)], [(0, 1, -1), (1, 0, 8)]),
            (Counted(), [(0, 1, 2), (1, 1, 0), (1, 2, 3)], [(0, 1, 6)]),
            (Likeliest(), [(0, 1, (1, 2)), (1, 1, (1, 1)), (1, 2, (2, 3))], [(0, 1, (1, 3))]),
            (Chances(), [(0, 1, (1, 2)), (1, 1, (1, 3)), (1, 2, (1, 3)), (0, 2, (1, 4))], [(0, 1, (1, 2))]),
            (Musts(), [(0, 1, 1), (1, 1, 2), (1, 2, 4)], [(0, 1, 5)]),
            (Rests(6), [(0, 1, 0b000010), (1, 1, 0b000100), (1, 2, 1)], [(0, 1, 0b101010)]),
        ]:
            with self.subTest(kind=kind, roads=roads):
                self.leaves(Net(kind, 3, roads), 1, wanted)

    def test_there_and_back_is_a_ring_of_one_place(self):
        self.leaves(Net(Chances(), 2, [(0, 1, (1, 2)), (1, 0, (2, 3))]), 1, [(0, 0, (1, 3))])
        self.leaves(Net(Chances(), 2, [(0, 1, (1, 2)), (1, 0, (2, 3))]), 0, [(0, 0, (1, 3))])
        self.leaves(Net(Counted(), 2, [(0, 1, 2), (1, 0, 3), (1, 1, 5)]), 0, [(0, 0, 11)])

    def test_the_empty_row_is_no_road(self):
        for model in models.seven():
            for places in (2, 8):
                for place in range(places):
                    self.leaves(Net(model.kind, places, []), place, [])

    def test_no_road_where_none_is_due(self):
        for model in models.seven():
            each = itertools.product(range(4), repeat=2)
            net = Net(model.kind, 4, [(start, end, model.kind.none()) for start, end in each])
            for place in range(4):
                self.leaves(net, place, [])

    def test_places_are_numbered_anew_in_their_order(self):
        line = [(at, at + 1, 2 ** at) for at in range(7)]
        for place in range(8):
            wanted = []
            for start, end, worth in line:
                if start != place and end != place:
                    wanted.append((start - (start > place), end - (end > place), worth))
                if end == place and end < 7:
                    wanted.append((start, end, worth + 2 * worth))
            self.leaves(Net(Fewest(), 8, list(reversed(line))), place, wanted)

    def test_roads_by_rising_pairs_one_for_each(self):
        each = [(start, end, 1) for start, end in itertools.product(range(8), repeat=2)]
        wanted = [(start, end, 1) for start, end in itertools.product(range(7), repeat=2)]
        for place in range(8):
            self.leaves(Net(Widest(), 8, list(reversed(each))), place, wanted)

    def test_each_road_is_what_the_ways_through_the_place_come_to(self):
        for model in models.seven():
            if isinstance(model, (models.OfCounted, models.OfChances)):
                continue
            for net in nets_of(model, 25, seed=9) + edge_nets(model):
                for place in range(net.places() if net.places() > 1 else 0):
                    left = [each for each in range(net.places()) if each != place]
                    wanted = []
                    for (start, one), (end, other) in itertools.product(enumerate(left), repeat=2):
                        worth = through_alone(model, net, place, one, other)
                        if worth != model.kind.none():
                            wanted.append((start, end, worth))
                    with self.subTest(kind=name_of(model), roads=net.roads(), place=place):
                        self.leaves(net, place, wanted)

    def test_the_sums_between_the_places_left_are_the_same(self):
        for model in models.seven() + [models.OfRests(5)]:
            for net in nets_of(model, 25, seed=10, least_lacking=1) + edge_nets(model, least_lacking=1):
                rows = table(net)
                for place in range(net.places() if net.places() > 1 else 0):
                    left = without(net, place)
                    with self.subTest(kind=name_of(model), roads=net.roads(), place=place):
                        self.same_rows(table(left), taken_out_of(rows, place))
                        self.same_rows(models.table_of(model, left), taken_out_of(rows, place))
                        pairs = [(start, end) for start, end, worth in left.roads()]
                        self.assertEqual(pairs, sorted(set(pairs)))

    def test_one_after_the_other_until_one_is_left(self):
        for model in models.seven():
            for net in edge_nets(model, least_lacking=1):
                rows = table(net)
                while net.places() > 1:
                    place = net.places() // 2
                    net = without(net, place)
                    rows = taken_out_of(rows, place)
                self.same_rows(table(net), rows)

    def test_long_shares(self):
        net = Net(Chances(), 8, long_shares(4))
        self.same_rows(table(without(net, 3)), taken_out_of(table(net), 3))

    def test_great_worths(self):
        line = [(0, 1, GREAT), (1, 2, GREAT)]
        for kind, worth in ((Fewest(), 2 * GREAT), (Counted(), GREAT ** 2), (Musts(), GREAT)):
            self.leaves(Net(kind, 3, line), 1, [(0, 1, worth)])

    def test_the_first_net_stays_as_it_is(self):
        for model in models.seven():
            for net in nets_of(model, 10, seed=11, least_lacking=1):
                if net.places() > 1:
                    roads = net.roads()
                    places = net.places()
                    rows = table(net)
                    without(net, 0)
                    self.assertEqual((net.places(), net.roads(), table(net)), (places, roads, rows))
                    self.assertIs(net.kind(), model.kind)


class NotTakenOut(Checks):
    def test_the_one_place_of_a_net(self):
        for model in models.seven():
            for roads in ([], [(0, 0, model.kind.none())]):
                for place in (0, 1, -1, BIG, -BIG):
                    self.refused(NoNet, without, Net(model.kind, 1, roads), place)

    def test_no_place(self):
        for model in models.seven():
            for net in edge_nets(model):
                if net.places() > 1:
                    for place in (-1, -net.places(), net.places(), net.places() + 1, BIG, -BIG):
                        self.refused(NoPlace, without, net, place)

    def test_no_sum_where_the_ring_at_the_place_is_one(self):
        for shares in ([(1, 1)], [(1, 2), (1, 2)], [(1, LONG), (LONG - 1, LONG)], [(1, 62)] * 62):
            for place in range(3):
                roads = [(place, place, share) for share in shares]
                self.refused(NoSum, without, Net(Chances(), 3, roads), place)
                led_to = roads + [((place + 1) % 3, place, (1, 2)), ((place + 2) % 3, place, (1, 1))]
                self.refused(NoSum, without, Net(Chances(), 3, led_to), place)

    def test_a_ring_elsewhere_is_no_harm(self):
        net = Net(Chances(), 3, [(0, 0, (1, 1)), (1, 2, (1, 2)), (2, 1, (1, 1))])
        self.assertEqual(without(net, 1).roads(), [(0, 0, (1, 1)), (1, 1, (1, 2))])
        self.assertEqual(without(net, 2).roads(), [(0, 0, (1, 1)), (1, 1, (1, 2))])
        self.refused(NoSum, without, net, 0)

    def test_no_sum_comes_when_the_ring_has_come_to_one(self):
        net = Net(Chances(), 3, [(0, 1, (1, 1)), (1, 2, (1, 1)), (2, 0, (1, 1))])
        two = without(net, 1)
        self.assertEqual(two.roads(), [(0, 1, (1, 1)), (1, 0, (1, 1))])
        one = without(two, 0)
        self.assertEqual(one.roads(), [(0, 0, (1, 1))])
        self.refused(NoSum, table, one)

    def test_their_order(self):
        ring = [(0, 0, (1, 1))]
        for place in (0, 1, -1):
            self.refused(NoNet, without, Net(Chances(), 1, ring), place)
        rings = ring + [(1, 1, (1, 1))]
        for place in (-1, -2, 2, 3):
            self.refused(NoPlace, without, Net(Chances(), 2, rings), place)


if __name__ == "__main__":
    unittest.main()
