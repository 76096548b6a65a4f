"""Point 7, and table and total of waysum/sums.py, for all kinds; Chances have a file of their own as well."""

import inspect
import itertools
import unittest

import models
from checks import BIG, Checks
from made_nets import GREAT, edge_nets, name_of, nets_of
from waysum.errors import NoPlace
from waysum.kinds import Chances, Counted, Fewest, Likeliest, Musts, Rests, Widest
from waysum.nets import Net
from waysum.sums import by_steps, table, total


def models_and_nets(many, seed):
    """Each model with nets that have a table."""
    for model in models.seven() + [models.OfRests(m) for m in (1, 2, 5, 6)]:
        made = nets_of(model, many, seed=seed) + edge_nets(model)
        if isinstance(model, models.OfChances):
            made = [net for net in made if not models.is_without_end(net)]
        yield model, made


class Tables(Checks):
    def test_their_arguments(self):
        self.assertEqual(list(inspect.signature(table).parameters), ["net"])
        self.assertEqual(list(inspect.signature(total).parameters), ["net", "place", "other"])

    def test_against_ways_put_together_road_by_road(self):
        for model, made in models_and_nets(60, seed=1):
            self.assertGreater(len(made), 30)
            for net in made:
                with self.subTest(kind=name_of(model), places=net.places(), roads=net.roads()):
                    self.same_rows(table(net), models.table_of(model, net))

    def test_each_sum_is_that_of_the_table(self):
        for model, made in models_and_nets(4, seed=2):
            for net in made:
                rows = table(net)
                for place, other in itertools.product(range(net.places()), repeat=2):
                    self.same(total(net, place, other), rows[place][other])

    def test_without_roads(self):
        for model in models.seven():
            for places in (1, 2, 8):
                rest = model.kind.rest()
                none = model.kind.none()
                rows = [[rest if at == end else none for end in range(places)] for at in range(places)]
                self.same_rows(table(Net(model.kind, places, [])), rows)

    def test_roads_of_no_worth_are_like_none(self):
        for model in models.seven():
            none = model.kind.none()
            each = [(start, end, none) for start, end in itertools.product(range(8), repeat=2)]
            self.same_rows(table(Net(model.kind, 8, each)), table(Net(model.kind, 8, [])))

    def test_a_line_of_eight(self):
        for kind, worth, wanted in [
            (Fewest(), 3, 21), (Widest(), 3, 3), (Counted(), 3, 3 ** 7), (Likeliest(), (1, 3), (1, 3 ** 7)),
            (Chances(), (1, 3), (1, 3 ** 7)), (Musts(), 3, 3), (Rests(5), 0b00010, 0b00100),
        ]:
            for order in (list(range(8)), [3, 0, 7, 2, 5, 1, 6, 4], list(reversed(range(8)))):
                net = Net(kind, 8, [(start, end, worth) for start, end in zip(order, order[1:])])
                self.same(total(net, order[0], order[7]), wanted)
                self.same(total(net, order[7], order[0]), kind.none())
                self.same(total(net, order[7], order[7]), kind.rest())

    def test_by_hand(self):
        roads = [(0, 1, 4), (0, 1, 6), (1, 2, 3), (0, 2, 8), (2, 2, 1)]
        for kind, wanted in [
            (Fewest(), [[0, 4, 7], [None, 0, 3], [None, None, 0]]),
            (Widest(), [[10 ** 9, 6, 8], [0, 10 ** 9, 3], [0, 0, 10 ** 9]]),
            (Counted(), [[1, 10, -1], [0, 1, -1], [0, 0, -1]]),
            (Musts(), [[0, 4, 0], [None, 0, 3], [None, None, 0]]),
            (Rests(4), [[1, 6, 14], [0, 1, 3], [0, 0, 1]]),
        ]:
            with self.subTest(kind=kind):
                self.same_rows(table(Net(kind, 3, roads)), wanted)


class EachKind(Checks):
    def test_fewest_prefers_the_long_way_round(self):
        net = Net(Fewest(), 4, [(0, 3, 10), (0, 1, 1), (1, 2, 1), (2, 3, 1), (3, 0, 0)])
        self.same(total(net, 0, 3), 3)
        self.same(total(net, 2, 1), 2)

    def test_widest_goes_nowhere_best(self):
        net = Net(Widest(), 2, [(0, 0, 5), (0, 1, 3), (1, 0, 9)])
        self.same_rows(table(net), [[10 ** 9, 3], [9, 10 ** 9]])

    def test_musts_are_what_no_way_can_shun(self):
        net = Net(Musts(), 4, [(0, 1, 0b0011), (0, 2, 0b0110), (1, 3, 0b1000), (2, 3, 0b1001), (1, 1, 0b10000)])
        self.same(total(net, 0, 3), 0b1011)
        self.same(total(net, 0, 1), 0b0011)
        self.same(total(net, 1, 1), 0)
        self.same(total(net, 3, 0), None)

    def test_rests_of_rings(self):
        for m in range(1, 13):
            for step in range(m):
                net = Net(Rests(m), 2, [(0, 1, 1), (1, 0, 2 ** step)])
                # Round any number of times and once more lead to the same rests, since some number leads to rest 0.
                wanted = sum(2 ** each for each in {times * step % m for times in range(m)})
                self.same_rows(table(net), [[wanted, wanted], [wanted, wanted]])

    def test_rests_of_the_longest_ring(self):
        net = Net(Rests(12), 8, [(at, (at + 1) % 8, 2) for at in range(8)])
        self.same(total(net, 0, 0), 0b000100010001)
        self.same(total(net, 0, 3), 0b100010001000)

    def test_likeliest_rings_better_nothing(self):
        net = Net(Likeliest(), 2, [(0, 0, (1, 1)), (0, 1, (1, 2)), (1, 0, (1, 1)), (0, 1, (2, 3))])
        self.same_rows(table(net), [[(1, 1), (2, 3)], [(1, 1), (1, 1)]])

    def test_great_worths(self):
        line = [(at, at + 1, GREAT) for at in range(7)]
        self.same(total(Net(Fewest(), 8, line), 0, 7), 7 * GREAT)
        self.same(total(Net(Counted(), 8, line * 9), 0, 7), (9 * GREAT) ** 7)
        self.same(total(Net(Musts(), 8, line * 9), 0, 7), GREAT)


class Counts(Checks):
    def test_a_ring_is_endless_where_it_lies_on_a_way(self):
        net = Net(Counted(), 5, [(0, 1, 2), (1, 1, 1), (1, 2, 3), (0, 2, 5), (3, 0, 1), (2, 4, 1)])
        self.same_rows(table(net), [
            [1, -1, -1, 0, -1], [0, -1, -1, 0, -1], [0, 0, 1, 0, 1], [1, -1, -1, 1, -1], [0, 0, 0, 0, 1],
        ])

    def test_a_ring_beside_all_ways_makes_nothing_endless(self):
        # From the ring 3 - 4 none leads to 2, and to the ring 5 - 6 none leads from 0.
        net = Net(Counted(), 7, [(0, 1, 2), (1, 2, 3), (0, 3, 1), (3, 4, 1), (4, 3, 1), (5, 6, 1), (6, 5, 1), (5, 2, 1)])
        self.same(total(net, 0, 2), 6)
        self.same(total(net, 0, 3), -1)
        self.same(total(net, 5, 2), -1)
        self.same(total(net, 0, 6), 0)

    def test_counts_of_nought_on_a_ring(self):
        for at in range(3):
            worths = [1, 1, 1]
            worths[at] = 0
            ring = [(place, (place + 1) % 3, worth) for place, worth in enumerate(worths)]
            net = Net(Counted(), 4, ring + [(0, 3, 7), (3, 3, 0)])
            rows = table(net)
            self.assertNotIn(-1, sum(rows, []))
            self.same(rows[0][3], 7)
            self.assertEqual([rows[place][place] for place in range(4)], [1, 1, 1, 1])

    def test_endless_roads(self):
        net = Net(Counted(), 4, [(0, 1, -1), (1, 2, 0), (1, 3, 2), (0, 3, 5)])
        self.same_rows(table(net), [[1, -1, 0, -1], [0, 1, 0, 2], [0, 0, 1, 0], [0, 0, 0, 1]])

    def test_a_ring_of_nought_and_an_endless_road(self):
        net = Net(Counted(), 2, [(0, 1, -1), (1, 0, 0)])
        self.same_rows(table(net), [[1, -1], [0, 1]])
        net = Net(Counted(), 2, [(0, 1, -1), (1, 0, 1)])
        self.same_rows(table(net), [[-1, -1], [-1, -1]])

    def test_alike_roads_are_each_counted(self):
        self.same(total(Net(Counted(), 2, [(0, 1, 1)] * 64), 0, 1), 64)

    def test_counts_without_rings_are_the_sums_by_steps(self):
        each = [(start, end, start + end) for start in range(8) for end in range(start + 1, 8)]
        net = Net(Counted(), 8, each + each)
        for place, other in itertools.product(range(8), repeat=2):
            self.same(total(net, place, other), sum(by_steps(net, place, other, steps) for steps in range(8)))


class TotalsRefused(Checks):
    def test_no_place(self):
        for model in models.seven():
            for net in edge_nets(model):
                for wrong in (-1, -net.places(), net.places(), net.places() + 1, BIG, -BIG):
                    self.refused(NoPlace, total, net, wrong, 0)
                    self.refused(NoPlace, total, net, 0, wrong)
                    self.refused(NoPlace, total, net, wrong, wrong)


if __name__ == "__main__":
    unittest.main()
