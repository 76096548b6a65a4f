"""Point 1: what is handed in is not changed and not kept; what is told is the asker's own."""

import copy
import unittest

import models
from checks import Checks
from made_nets import edge_nets, nets_of
from waysum.errors import SumError
from waysum.kinds import Chances, Fewest
from waysum.nets import Net
from waysum.picked import way_for
from waysum.sums import by_steps, table, total, without, worth_of


def refusal_or(deed, *handed):
    try:
        return deed(*handed)
    except SumError as refusal:
        return type(refusal)


def all_told(net):
    """Whatever a net can be asked, a way of each length from 0 to 2 among it."""
    last = net.places() - 1
    left = refusal_or(without, net, last)
    told = [net.places(), net.roads(), refusal_or(table, net), refusal_or(total, net, 0, last)]
    told += [by_steps(net, 0, last, steps) for steps in (0, 1, 3)]
    told.append(left.roads() if isinstance(left, Net) else left)
    told += [refusal_or(worth_of, net, 0, row) for row in ([], [0], [0, 0])]
    told.append(refusal_or(way_for, net, 0, last))
    return told


def made(model):
    return nets_of(model, 15, seed=14) + edge_nets(model)


class WhatIsHandedIn(Checks):
    def test_the_list_of_roads_is_not_changed(self):
        for model in models.seven():
            for net in made(model):
                handed = net.roads()
                kept = copy.deepcopy(handed)
                again = Net(model.kind, net.places(), handed)
                all_told(again)
                self.assertEqual(handed, kept)

    def test_the_list_of_roads_may_be_changed_later(self):
        for model in models.seven():
            for net in made(model):
                handed = net.roads()
                again = Net(model.kind, net.places(), handed)
                handed.append((0, 0, model.kind.rest()))
                handed.reverse()
                self.assertEqual(all_told(again), all_told(net))
                handed.clear()
                self.assertEqual(all_told(again), all_told(net))

    def test_two_nets_of_one_list(self):
        roads = [(0, 1, 3)]
        one = Net(Fewest(), 2, roads)
        roads.append((1, 0, 4))
        other = Net(Fewest(), 2, roads)
        self.assertEqual((one.roads(), other.roads()), ([(0, 1, 3)], [(0, 1, 3), (1, 0, 4)]))

    def test_a_refused_list_is_not_changed(self):
        for roads in ([(0, 1, 3), (0, 2, 3)], [(0, 1, 3), (0, 1, -1)], [(0, 1, 3)] * 65):
            kept = list(roads)
            self.assertIsInstance(refusal_or(Net, Fewest(), 2, roads), type)
            self.assertEqual(roads, kept)

    def test_the_row_of_a_way(self):
        net = Net(Fewest(), 2, [(0, 1, 3), (1, 0, 4)])
        row = [0, 1, 0]
        self.assertEqual(worth_of(net, 0, row), (1, 10))
        self.assertEqual(row, [0, 1, 0])
        row.append(1)
        self.assertEqual(worth_of(net, 0, [0, 1, 0]), (1, 10))
        wrong = [0, 0, 7]
        refusal_or(worth_of, net, 0, wrong)
        self.assertEqual(wrong, [0, 0, 7])


class WhatIsTold(Checks):
    def test_roads(self):
        for model in models.seven():
            for net in made(model):
                before = all_told(net)
                roads = net.roads()
                self.assertIsNot(roads, net.roads())
                roads.append((0, 0, model.kind.rest()))
                roads.reverse()
                self.assertEqual(all_told(net), before)
                net.roads().clear()
                self.assertEqual(all_told(net), before)

    def test_rows(self):
        for model in models.seven():
            for net in made(model):
                rows = refusal_or(table, net)
                if isinstance(rows, list):
                    kept = copy.deepcopy(rows)
                    lists = [rows, table(net)] + rows + table(net)
                    self.assertEqual(len({id(each) for each in lists}), len(lists))
                    for at, row in enumerate(rows):
                        row[0] = "changed"
                        self.assertEqual(rows[at + 1:], kept[at + 1:])
                        row.clear()
                    rows.clear()
                    self.assertEqual(table(net), kept)
                    self.assertEqual(total(net, 0, 0), kept[0][0])

    def test_ways(self):
        for model in (models.OfFewest(), models.OfWidest(), models.OfLikeliest()):
            for net in made(model):
                before = all_told(net)
                for other in range(net.places()):
                    way = refusal_or(way_for, net, 0, other)
                    if isinstance(way, list):
                        kept = list(way)
                        self.assertIsNot(way, way_for(net, 0, other))
                        way.append(0)
                        way.reverse()
                        self.assertEqual(way_for(net, 0, other), kept)
                self.assertEqual(all_told(net), before)

    def test_roads_of_what_is_left(self):
        net = Net(Chances(), 3, [(0, 1, (1, 2)), (1, 2, (1, 2)), (2, 0, (1, 2))])
        left = without(net, 1)
        kept = left.roads()
        left.roads().clear()
        net.roads().clear()
        self.assertEqual(left.roads(), kept)
        self.assertEqual(without(net, 1).roads(), kept)


class NetsAreNeverChanged(Checks):
    def test_asked_twice_they_tell_the_same(self):
        for model in models.seven():
            for net in made(model):
                held = (model.kind, net.places(), net.roads())
                kind_held = dict(vars(model.kind))
                self.assertEqual(all_told(net), all_told(net))
                self.assertEqual((net.kind(), net.places(), net.roads()), held)
                self.assertEqual(vars(model.kind), kind_held)

    def test_many_nets_side_by_side(self):
        alone = [all_told(net) for model in models.seven() for net in made(model)]
        side_by_side = [net for model in models.seven() for net in made(model)]
        for net in reversed(side_by_side):
            all_told(net)
        self.assertEqual([all_told(net) for net in side_by_side], alone)


if __name__ == "__main__":
    unittest.main()
