"""Point 10, and the interface of waysum/picked.py."""

import inspect
import itertools
import random
import unittest

import models
from checks import BIG, Checks
from made_nets import GREAT, LONG, edge_nets, long_shares, name_of, nets_of
from waysum.errors import NoPick, NoPlace, NoWay
from waysum.kinds import Chances, Fewest, Likeliest, Widest
from waysum.nets import Net
from waysum.picked import way_for
from waysum.sums import table, worth_of


def who_pick():
    return [models.OfFewest(), models.OfWidest(), models.OfLikeliest()]


def who_do_not():
    return [model for model in models.seven() if not isinstance(model, tuple(type(each) for each in who_pick()))]


def places_on(net, place, row):
    return [place] + [net.roads()[number][1] for number in row]


class WaysPicked(Checks):
    def test_its_arguments(self):
        self.assertEqual(list(inspect.signature(way_for).parameters), ["net", "place", "other"])

    def picks_well(self, net, place, other, wanted):
        row = way_for(net, place, other)
        self.assertIs(type(row), list)
        for number in row:
            self.assertIs(type(number), int)
        self.assertEqual(worth_of(net, place, row), (other, wanted))
        on = places_on(net, place, row)
        self.assertEqual(len(on), len(set(on)), on)

    def all_pairs(self, model, net):
        rows = models.table_of(model, net)
        for place, other in itertools.product(range(net.places()), repeat=2):
            with self.subTest(kind=name_of(model), roads=net.roads(), place=place, other=other):
                if rows[place][other] == model.kind.none():
                    self.refused(NoWay, way_for, net, place, other)
                else:
                    self.picks_well(net, place, other, rows[place][other])

    def test_many_nets(self):
        for model in who_pick():
            for net in nets_of(model, 120, seed=12) + edge_nets(model):
                self.all_pairs(model, net)

    def test_where_many_ways_are_alike(self):
        source = random.Random(13)
        for model, worths in zip(who_pick(), ([0, 0, 1], [1, 2, 10 ** 9], [(1, 1), (1, 1), (1, 2)])):
            for each in range(40):
                ends = [(source.randrange(8), source.randrange(8)) for road in range(64)]
                self.all_pairs(model, Net(model.kind, 8, [(one, other, source.choice(worths)) for one, other in ends]))

    def test_long_shares(self):
        self.all_pairs(models.OfLikeliest(), Net(Likeliest(), 8, long_shares(5)))

    def test_to_itself_the_empty_row(self):
        for model in who_pick():
            for net in edge_nets(model):
                for place in range(net.places()):
                    self.assertEqual(way_for(net, place, place), [])

    def test_the_one_way_there_is(self):
        for kind, worth in ((Fewest(), 5), (Widest(), 5), (Likeliest(), (1, 5))):
            order = [3, 0, 7, 2, 5, 1, 6, 4]
            net = Net(kind, 8, [(start, end, worth) for start, end in zip(order, order[1:])])
            self.assertEqual(way_for(net, 3, 4), [0, 1, 2, 3, 4, 5, 6])
            self.assertEqual(way_for(net, 7, 5), [2, 3])
            self.refused(NoWay, way_for, net, 4, 3)

    def test_the_better_of_roads_alike(self):
        self.assertEqual(way_for(Net(Fewest(), 2, [(0, 1, 5), (0, 1, 2), (0, 1, 9), (0, 1, None)]), 0, 1), [1])
        self.assertEqual(way_for(Net(Widest(), 2, [(0, 1, 5), (0, 1, 2), (0, 1, 9), (0, 1, 0)]), 0, 1), [2])
        shares = [(1, 3), (2, 3), (1, 2), (0, 1)]
        self.assertEqual(way_for(Net(Likeliest(), 2, [(0, 1, share) for share in shares]), 0, 1), [1])

    def test_many_roads_where_they_better_one(self):
        line = [(at, at + 1) for at in range(7)]
        for kind, straight, worth in [
            (Fewest(), 8, 1), (Widest(), 4, 5), (Likeliest(), (1, 129), (1, 2)), (Fewest(), 7 * GREAT + 1, GREAT),
            (Likeliest(), (1, LONG), (LONG - 1, LONG)),
        ]:
            net = Net(kind, 8, [(0, 7, straight)] + [(start, end, worth) for start, end in line])
            self.assertEqual(way_for(net, 0, 7), [1, 2, 3, 4, 5, 6, 7])

    def test_one_road_where_it_betters_many(self):
        line = [(at, at + 1) for at in range(7)]
        for kind, straight, worth in [(Fewest(), 6, 1), (Widest(), 6, 5), (Likeliest(), (1, 127), (1, 2))]:
            net = Net(kind, 8, [(start, end, worth) for start, end in line] + [(0, 7, straight)])
            self.assertEqual(way_for(net, 0, 7), [7])

    def test_rings_that_cost_nothing_are_not_gone_round(self):
        for kind, free, dear in ((Fewest(), 0, 3), (Widest(), 10 ** 9, 3), (Likeliest(), (1, 1), (1, 3))):
            net = Net(kind, 4, [(0, 0, free), (0, 1, free), (1, 0, free), (1, 1, free), (1, 2, dear), (2, 1, free),
                                (2, 2, free), (2, 3, free), (3, 0, free), (0, 1, free)])
            for place, other in itertools.product(range(4), repeat=2):
                self.picks_well(net, place, other, table(net)[place][other])


class WaysNotPicked(Checks):
    def test_no_way_where_the_sum_is_none(self):
        for model in who_pick():
            none = model.kind.none()
            rest = model.kind.rest()
            for roads in ([], [(0, 1, none)], [(1, 0, rest)], [(0, 0, rest)], [(0, 2, rest), (2, 1, none)]):
                self.refused(NoWay, way_for, Net(model.kind, 3, roads), 0, 1)

    def test_no_pick_for_the_other_kinds(self):
        for model in who_do_not():
            for net in edge_nets(model):
                for place, other in itertools.product((0, net.places() - 1), repeat=2):
                    self.refused(NoPick, way_for, net, place, other)

    def test_no_pick_goes_ahead_of_no_way_and_no_sum(self):
        for model in who_do_not():
            self.refused(NoPick, way_for, Net(model.kind, 2, []), 0, 1)
        self.refused(NoPick, way_for, Net(Chances(), 2, [(0, 0, (1, 1))]), 0, 1)

    def test_no_place(self):
        for model in who_pick():
            for net in edge_nets(model):
                for wrong in (-1, -net.places(), net.places(), net.places() + 1, BIG, -BIG):
                    self.refused(NoPlace, way_for, net, wrong, 0)
                    self.refused(NoPlace, way_for, net, 0, wrong)
                    self.refused(NoPlace, way_for, net, wrong, wrong)

    def test_no_place_goes_ahead_of_no_pick_and_no_way(self):
        for model in models.seven():
            for wrong in (-1, -2, 2, 3):
                self.refused(NoPlace, way_for, Net(model.kind, 2, []), wrong, 0)
                self.refused(NoPlace, way_for, Net(model.kind, 2, []), 0, wrong)


if __name__ == "__main__":
    unittest.main()
