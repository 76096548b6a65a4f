"""Point 5, and worth_of of waysum/sums.py."""

import inspect
import random
import unittest

import models
from checks import BIG, Checks
from made_nets import LONG, edge_nets, nets_of
from waysum.errors import NoPlace, NoRoad
from waysum.kinds import Chances, Counted, Fewest, Likeliest, Musts, Rests, Widest
from waysum.nets import Net
from waysum.sums import worth_of


def ring_of_three(kind, worths):
    """Roads 0, 1 and 2 round the places 0, 1 and 2; road 3 is like road 0; road 4 leads from 1 to 1."""
    ends = [(0, 1), (1, 2), (2, 0), (0, 1), (1, 1)]
    return Net(kind, 3, [(start, end, worth) for (start, end), worth in zip(ends, worths)])


def some_way(source, net, place, length):
    row = []
    for each in range(length):
        going = [number for number, road in enumerate(net.roads()) if road[0] == place]
        if not going:
            break
        row.append(source.choice(going))
        place = net.roads()[row[-1]][1]
    return row


class WaysWalked(Checks):
    def walks(self, net, place, row, wanted):
        told = worth_of(net, place, row)
        self.assertIs(type(told), tuple)
        self.assertEqual(len(told), 2)
        self.same(told[0], wanted[0])
        self.same(told[1], wanted[1])

    def test_its_arguments(self):
        self.assertEqual(list(inspect.signature(worth_of).parameters), ["net", "place", "row"])
        self.walks(Net(Fewest(), 1, []), 0, [], (0, 0))

    def test_the_empty_row(self):
        for model in models.seven():
            for net in edge_nets(model):
                for place in range(net.places()):
                    self.walks(net, place, [], (place, net.kind().rest()))

    def test_by_hand(self):
        for kind, worths, row, wanted in [
            (Fewest(), [1, 2, 4, 8, 16], [0, 1], (2, 3)),
            (Fewest(), [1, 2, 4, 8, 16], [3, 4, 4, 1, 2], (0, 46)),
            (Fewest(), [1, None, 4, 8, 16], [0, 1], (2, None)),
            (Fewest(), [1, None, 4, 8, 16], [0, 1, 2], (0, None)),
            (Widest(), [5, 2, 7, 10 ** 9, 0], [0, 1, 2], (0, 2)),
            (Widest(), [5, 2, 7, 10 ** 9, 0], [3], (1, 10 ** 9)),
            (Widest(), [5, 2, 7, 10 ** 9, 0], [3, 4], (1, 0)),
            (Counted(), [2, 3, 5, 7, -1], [0, 1, 2], (0, 30)),
            (Counted(), [2, 3, 5, 7, -1], [0, 4, 1], (2, -1)),
            (Counted(), [0, 3, 5, 7, -1], [0, 4, 1], (2, 0)),
            (Likeliest(), [(1, 2), (2, 3), (3, 4), (1, 1), (0, 1)], [0, 1, 2], (0, (1, 4))),
            (Likeliest(), [(1, 2), (2, 3), (3, 4), (1, 1), (0, 1)], [3], (1, (1, 1))),
            (Likeliest(), [(1, 2), (2, 3), (3, 4), (1, 1), (0, 1)], [3, 4], (1, (0, 1))),
            (Chances(), [(1, 2), (2, 3), (3, 4), (1, 3), (1, 5)], [0, 4, 1, 2], (0, (1, 20))),
            (Musts(), [1, 2, 4, 9, 16], [0, 1, 2, 3], (1, 15)),
            (Musts(), [1, 2, 4, 9, None], [0, 4], (1, None)),
            (Rests(5), [0b00010, 0b00100, 0b01000, 0b10000, 0b11111], [0, 1], (2, 0b01000)),
            (Rests(5), [0b00010, 0b00100, 0b01000, 0b10000, 0b11111], [3, 1, 2], (0, 0b10000)),
            (Rests(5), [0b00110, 0b00100, 0b01000, 0b10000, 0], [0, 1], (2, 0b11000)),
            (Rests(5), [0b00110, 0b00100, 0b01000, 0b10000, 0], [0, 4], (1, 0)),
        ]:
            with self.subTest(kind=kind, row=row):
                self.walks(ring_of_three(kind, worths), 0, row, wanted)

    def test_it_may_begin_at_each_place(self):
        net = ring_of_three(Fewest(), [1, 2, 4, 8, 16])
        self.walks(net, 1, [1, 2, 0], (1, 7))
        self.walks(net, 2, [2], (0, 4))
        self.walks(net, 2, [2, 3, 4], (1, 28))

    def test_many_ways(self):
        source = random.Random(5)
        for model in models.seven() + [models.OfRests(1), models.OfRests(7)]:
            for net in nets_of(model, 30) + edge_nets(model):
                for place in range(net.places()):
                    row = some_way(source, net, place, source.randrange(12))
                    end, worth = models.walked(model, net, place, row)
                    self.walks(net, place, row, (end, model.back(worth)))

    def test_long_ways(self):
        for model, worth in zip(models.seven(), (3, 3, 3, (LONG - 1, LONG), (LONG - 1, LONG), 3, 4)):
            net = Net(model.kind, 1, [(0, 0, worth)])
            end, wanted = models.walked(model, net, 0, [0] * 1000)
            self.walks(net, 0, [0] * 1000, (0, model.back(wanted)))


class WaysRefused(Checks):
    def test_no_place(self):
        for model in models.seven():
            for net in edge_nets(model):
                for place in (-1, -net.places(), net.places(), net.places() + 1, BIG, -BIG):
                    self.refused(NoPlace, worth_of, net, place, [])

    def test_no_place_goes_ahead_of_no_road(self):
        net = ring_of_three(Fewest(), [1, 2, 4, 8, 16])
        for place in (-1, 3):
            for row in ([0], [5], [-1], [2], [0, 0]):
                self.refused(NoPlace, worth_of, net, place, row)

    def test_a_number_that_is_no_road(self):
        for model in models.seven():
            none = model.kind.none()
            net = ring_of_three(model.kind, [none] * 5)
            for number in (-1, -2, -5, 5, 6, 64, BIG, -BIG):
                for row in ([number], [number, 0, 1], [0, number, 1], [0, 1, number], [0, number, number]):
                    self.refused(NoRoad, worth_of, net, 0, row)

    def test_no_roads_at_all(self):
        for model in models.seven():
            for number in (0, -1, 1):
                self.refused(NoRoad, worth_of, Net(model.kind, 1, []), 0, [number])

    def test_a_road_that_goes_from_elsewhere(self):
        for model in models.seven():
            none = model.kind.none()
            net = ring_of_three(model.kind, [none] * 5)
            for place, row in [
                (0, [1]), (0, [2]), (0, [4]), (1, [0]), (2, [0]), (2, [1]),
                (0, [1, 2, 0]), (0, [0, 0, 1]), (0, [0, 2, 0]), (0, [0, 3, 1]), (0, [0, 1, 0]), (0, [0, 1, 2, 1]),
                (0, [0, 1, 4]), (1, [4, 4, 0]), (0, [0, 1, 2, 4]),
            ]:
                self.refused(NoRoad, worth_of, net, place, row)

    def test_no_road_behind_a_way_of_no_worth(self):
        net = ring_of_three(Fewest(), [None, 2, 4, 8, 16])
        self.refused(NoRoad, worth_of, net, 0, [0, 2])
        self.refused(NoRoad, worth_of, net, 0, [0, 7])


if __name__ == "__main__":
    unittest.main()
