"""Points 7 and 8 of Chances: sums that are come near to, and NoSum."""

import itertools
import unittest
from fractions import Fraction

import models
from checks import BIG, Checks
from made_nets import LONG, edge_nets, long_shares, nets_of
from waysum.errors import NoPlace, NoSum
from waysum.kinds import Chances
from waysum.nets import Net
from waysum.sums import by_steps, table, total


def net_of(places, roads):
    return Net(Chances(), places, roads)


class SumsOfChances(Checks):
    def test_a_ring_at_a_place(self):
        for share, wanted in [
            ((0, 1), (1, 1)), ((1, 2), (2, 1)), ((2, 3), (3, 1)), ((LONG - 1, LONG), (LONG, 1)),
            ((1, LONG), (LONG, LONG - 1)),
        ]:
            self.same_rows(table(net_of(1, [(0, 0, share)])), [[wanted]])

    def test_roads_alike_are_summed_ahead_of_the_ring(self):
        self.same_rows(table(net_of(1, [(0, 0, (1, 128))] * 64)), [[(2, 1)]])
        self.same_rows(table(net_of(1, [(0, 0, (1, 65))] * 64)), [[(65, 1)]])

    def test_by_hand(self):
        net = net_of(3, [(0, 1, (1, 2)), (1, 0, (1, 2)), (1, 2, (1, 2)), (0, 2, (1, 2))])
        self.same_rows(table(net), [
            [(4, 3), (2, 3), (1, 1)], [(2, 3), (4, 3), (1, 1)], [(0, 1), (0, 1), (1, 1)],
        ])

    def test_rings_just_below_one(self):
        for many in range(1, 9):
            for at in range(many):
                shares = [(1, 1)] * many
                shares[at] = (LONG - 1, LONG)
                net = net_of(many, [(place, (place + 1) % many, share) for place, share in enumerate(shares)])
                self.same(total(net, at, at), (LONG, 1))
                self.same_rows(table(net), models.table_of_chances(net))

    def test_a_ring_of_one_that_is_left_now_and_then(self):
        net = net_of(3, [(0, 1, (1, 1)), (1, 0, (LONG - 1, LONG)), (1, 2, (1, LONG))])
        self.same(total(net, 0, 2), (1, 1))
        self.same(total(net, 0, 0), (LONG, 1))

    def test_sums_by_steps_come_near(self):
        for net in nets_of(models.OfChances(), 40, most_places=5, seed=6, least_lacking=3):
            rows = table(net)
            for place, other in itertools.product(range(net.places()), repeat=2):
                so_far = sum(Fraction(*by_steps(net, place, other, steps)) for steps in range(41))
                lacking = Fraction(*rows[place][other]) - so_far
                # At least 3 parts of 40 are lacking at each place, so what is left behind 41 steps is small.
                self.assertTrue(0 <= lacking < Fraction(37, 40) ** 41 * 40 / 3)

    def test_one_in_all_at_a_place_is_no_harm_by_itself(self):
        net = net_of(8, [(at, at + 1, (1, 1)) for at in range(7)])
        for place, other in itertools.product(range(8), repeat=2):
            self.same(total(net, place, other), (1, 1) if place <= other else (0, 1))

    def test_long_shares(self):
        net = net_of(8, long_shares(3))
        self.same_rows(table(net), models.table_of_chances(net))


class NoSums(Checks):
    def no_table_nor_sum(self, net):
        self.refused(NoSum, table, net)
        for place, other in itertools.product(range(net.places()), repeat=2):
            self.refused(NoSum, total, net, place, other)

    def test_rings_of_just_one(self):
        for many in range(1, 9):
            self.no_table_nor_sum(net_of(many, [(place, (place + 1) % many, (1, 1)) for place in range(many)]))

    def test_places_whose_roads_come_to_just_one(self):
        self.no_table_nor_sum(net_of(1, [(0, 0, (1, 2)), (0, 0, (1, 2))]))
        self.no_table_nor_sum(net_of(1, [(0, 0, (1, 64))] * 64))
        self.no_table_nor_sum(net_of(2, [(0, 1, (1, 3)), (0, 0, (2, 3)), (1, 0, (1, LONG)), (1, 1, (LONG - 1, LONG))]))
        each = [(start, end, (1, 8)) for start, end in itertools.product(range(8), repeat=2)]
        self.no_table_nor_sum(net_of(8, each))

    def test_such_places_that_cannot_be_reached(self):
        for at in range(3):
            self.no_table_nor_sum(net_of(3, [(at, at, (1, 1))]))
        self.no_table_nor_sum(net_of(4, [(0, 1, (1, 2)), (2, 3, (1, 1)), (3, 2, (1, 1))]))
        self.no_table_nor_sum(net_of(4, [(3, 1, (1, 2)), (2, 0, (1, 1)), (0, 2, (1, 1))]))

    def test_such_places_that_lead_nowhere_else_but_are_led_to(self):
        self.no_table_nor_sum(net_of(3, [(0, 1, (1, 2)), (1, 2, (1, 9)), (2, 2, (1, 1))]))

    def test_just_where_point_8_says_so(self):
        model = models.OfChances()
        refused = 0
        made = nets_of(model, 300, seed=8) + edge_nets(model)
        for net in made:
            if models.is_without_end(net):
                refused += 1
                self.refused(NoSum, table, net)
                self.refused(NoSum, total, net, 0, net.places() - 1)
            else:
                table(net)
                total(net, 0, net.places() - 1)
        self.assertTrue(50 < refused < len(made) - 50)

    def test_a_road_out_however_slight(self):
        net = net_of(2, [(0, 0, (LONG - 1, LONG)), (0, 1, (1, LONG))])
        self.same_rows(table(net), [[(LONG, 1), (1, 1)], [(0, 1), (1, 1)]])

    def test_steps_and_walks_are_told_all_the_same(self):
        net = net_of(2, [(0, 1, (1, 1)), (1, 0, (1, 1))])
        self.same(by_steps(net, 0, 0, 40), (1, 1))

    def test_no_place_goes_ahead(self):
        net = net_of(2, [(0, 1, (1, 1)), (1, 0, (1, 1))])
        for wrong in (-1, -2, 2, 3, BIG, -BIG):
            self.refused(NoPlace, total, net, wrong, 0)
            self.refused(NoPlace, total, net, 0, wrong)
            self.refused(NoPlace, total, net, wrong, wrong)


if __name__ == "__main__":
    unittest.main()
