"""Point 4, with points 3 and 8, and the interface of waysum/nets.py."""

import inspect
import unittest

import models
from checks import BIG, Checks
from made_nets import GREAT, LONG, edge_nets, long_shares, name_of
from waysum.errors import NoNet, NoWorth
from waysum.kinds import Chances, Counted, Fewest, Likeliest, Musts, Rests, Widest
from waysum.nets import Net

NEGATIVE_SHARES = [(-1, 1), (-1, 2), (-BIG, 1), (-1, BIG)]
NO_SHARES = [None, 0, 1, -1, BIG, (0, 2), (2, 4), (3, 3), (1, 0), (0, 0), (1, -2), (-1, -2), (BIG, BIG)]
PAIRS = [(0, 1), (1, 1), (1, 2), (2, 4), (1, 0), (1, -1)]

# Of each kind: some worths, and some that are none of its own.
EACH = [
    (Fewest(), [None, 0, 1, GREAT, GREAT + 1, BIG], [-1, -2, -BIG] + PAIRS),
    (Widest(), [0, 1, 10 ** 9 - 1, 10 ** 9], [None, -1, -BIG, 10 ** 9 + 1, GREAT, BIG] + PAIRS),
    (Counted(), [-1, 0, 1, GREAT, GREAT + 1, BIG], [None, -2, -3, -BIG] + PAIRS),
    (Likeliest(), [(0, 1), (1, 1), (1, LONG), (LONG - 1, LONG), (1, BIG)],
     NO_SHARES + NEGATIVE_SHARES + [(2, 1), (LONG, LONG - 1), (BIG, 1)]),
    (Chances(), [(0, 1), (1, 1), (1, LONG), (LONG - 1, LONG), (1, BIG)], NO_SHARES + NEGATIVE_SHARES),
    (Musts(), [None, 0, 1, GREAT, GREAT + 1, BIG], [-1, -2, -BIG] + PAIRS),
    (Rests(1), [0, 1], [None, -1, 2, 3, BIG, -BIG] + PAIRS),
    (Rests(5), [0, 1, 30, 31], [None, -1, 32, 33, BIG, -BIG] + PAIRS),
    (Rests(12), [0, 1, 4094, 4095], [None, -1, 4096, 4097, BIG, -BIG] + PAIRS),
]


class WhatANetTells(Checks):
    def test_its_arguments_and_methods(self):
        self.assertEqual(list(inspect.signature(Net).parameters), ["kind", "places", "roads"])
        for name in ("kind", "places", "roads"):
            self.assertEqual(list(inspect.signature(getattr(Net, name)).parameters), ["self"])
        net = Net(kind=Fewest(), places=2, roads=[(0, 1, 5)])
        self.assertIsInstance(net.kind(), Fewest)
        self.same(net.places(), 2)
        self.assertEqual(net.roads(), [(0, 1, 5)])

    def test_what_was_handed_in(self):
        for kind, worths, others in EACH:
            for worth in worths:
                for roads in ([(0, 0, worth)], [(0, 1, worth), (2, 1, worth), (1, 1, worth)], [(2, 0, worth)]):
                    with self.subTest(kind=kind, roads=roads):
                        net = Net(kind, 3, list(roads))
                        self.assertIs(net.kind(), kind)
                        self.same(net.places(), 3)
                        self.assertIs(type(net.roads()), list)
                        self.assertEqual(net.roads(), roads)

    def test_the_edges_for_each_kind(self):
        for model in models.seven():
            told = [(net.places(), len(net.roads())) for net in edge_nets(model)]
            with self.subTest(kind=name_of(model)):
                for wanted in [(1, 0), (8, 0), (1, 1), (1, 64), (8, 64), (2, 64)]:
                    self.assertIn(wanted, told)

    def test_the_roads_keep_their_order(self):
        roads = [(1, 0, 3), (0, 1, 2), (1, 0, 3), (0, 0, 9), (0, 1, 1)]
        self.assertEqual(Net(Fewest(), 2, roads).roads(), roads)

    def test_beyond_point_3_nothing_is_refused(self):
        self.assertEqual(len(Net(Likeliest(), 8, long_shares(1)).roads()), 64)
        self.assertEqual(len(Net(Chances(), 8, long_shares(1)).roads()), 64)
        Net(Chances(), 1, [(0, 0, (1, 10 ** 12 + each)) for each in range(64)])


class NumbersRefused(Checks):
    def test_places(self):
        for kind, worths, others in EACH:
            for places in (1, 8):
                self.same(Net(kind, places, []).places(), places)
            for places in (0, -1, -8, 9, 10, BIG, -BIG):
                self.refused(NoNet, Net, kind, places, [])
                self.refused(NoNet, Net, kind, places, [(0, 0, worths[0])])

    def test_roads(self):
        for kind, worths, others in EACH:
            none = kind.none()
            for many in (0, 1, 63, 64):
                self.assertEqual(len(Net(kind, 1, [(0, 0, none)] * many).roads()), many)
                self.assertEqual(len(Net(kind, 8, [(7, 0, none)] * many).roads()), many)
            for many in (65, 66, 128):
                self.refused(NoNet, Net, kind, 1, [(0, 0, none)] * many)
                self.refused(NoNet, Net, kind, 8, [(7, 0, none)] * many)

    def test_ends(self):
        for kind, worths, others in EACH:
            none = kind.none()
            for places in (1, 2, 7, 8):
                Net(kind, places, [(0, places - 1, none), (places - 1, 0, none)])
                for end in (-1, -places, places, places + 1, 8, BIG, -BIG):
                    for wrong in ((0, end, none), (end, 0, none), (end, end, none)):
                        good = (0, places - 1, none)
                        for roads in ([wrong], [wrong, good], [good, wrong, good], [good, wrong]):
                            self.refused(NoNet, Net, kind, places, roads)


class WorthsRefused(Checks):
    def test_at_the_first_an_inner_and_the_last_road(self):
        for kind, worths, others in EACH:
            good = (0, 1, kind.none())
            for some in others:
                for wrong in ((0, 1, some), (1, 1, some), (1, 0, some)):
                    for roads in ([wrong], [wrong, good], [good, wrong, good], [good, good, wrong]):
                        self.refused(NoWorth, Net, kind, 2, roads)

    def test_no_net_goes_ahead(self):
        for kind, worths, others in EACH:
            good = (0, 0, kind.none())
            for some in others:
                wrong = (0, 0, some)
                for places in (0, 9, -1):
                    self.refused(NoNet, Net, kind, places, [wrong])
                self.refused(NoNet, Net, kind, 1, [wrong] * 65)
                self.refused(NoNet, Net, kind, 1, [wrong] + [good] * 64)
                self.refused(NoNet, Net, kind, 2, [wrong, (0, 2, kind.none())])
                self.refused(NoNet, Net, kind, 2, [(-1, 0, kind.none()), wrong])
                self.refused(NoNet, Net, kind, 2, [(2, 0, some)])
                self.refused(NoNet, Net, kind, 2, [(0, -1, some)])


class WhatGoesFromAPlace(Checks):
    """Point 8: the shares of the roads that go from a place come to at most 1 in all."""

    def test_up_to_just_one(self):
        for shares in (
            [(1, 1)], [(1, 2), (1, 2)], [(1, 2), (1, 3), (1, 6)], [(1, 64)] * 64, [(1, LONG), (LONG - 1, LONG)],
            [(1, 1)] + [(0, 1)] * 63, [(1, 65)] * 64, [(1, BIG), (BIG - 1, BIG)],
        ):
            for place in (0, 3, 7):
                roads = [(place, at % 8, share) for at, share in enumerate(shares)]
                self.assertEqual(Net(Chances(), 8, roads).roads(), roads)

    def test_more_than_one_refused(self):
        for shares in (
            [(2, 1)], [(LONG, LONG - 1)], [(1, 1), (1, LONG)], [(1, 2), (1, 2), (1, BIG)], [(1, 63)] * 64,
            [(1, 3), (1, 2), (1, 5)], [(1, LONG), (LONG - 2, LONG - 1), (1, LONG - 1)], [(1, 1), (1, 1)], [(BIG, 1)],
        ):
            for place in (0, 3, 7):
                roads = [(place, at % 8, share) for at, share in enumerate(shares)]
                self.refused(NoNet, Net, Chances(), 8, roads)
                self.refused(NoNet, Net, Chances(), 8, [(place, place, share) for share in shares])
                self.refused(NoNet, Net, Chances(), 8, [(place, 5, share) for share in shares])
                self.refused(NoNet, Net, Chances(), 8, list(reversed(roads)))

    def test_each_place_by_itself(self):
        Net(Chances(), 8, [(place, (place + 1) % 8, (1, 1)) for place in range(8)])
        self.refused(NoNet, Net, Chances(), 2, [(0, 1, (1, 1)), (1, 0, (2, 3)), (0, 0, (0, 1)), (1, 1, (1, 2))])

    def test_what_leads_to_a_place_is_not_bound(self):
        roads = [(place, 0, (1, 1)) for place in range(8)]
        self.assertEqual(Net(Chances(), 8, roads).roads(), roads)

    def test_no_net_goes_ahead_of_no_worth(self):
        for wrong in NO_SHARES:
            for roads in (
                [(0, 1, wrong), (0, 0, (3, 2))], [(0, 0, (3, 2)), (0, 1, wrong)], [(1, 1, wrong), (0, 0, (3, 2))],
                [(0, 0, (1, 2)), (0, 1, wrong), (0, 1, (1, 2)), (0, 1, (1, 9))],
            ):
                self.refused(NoNet, Net, Chances(), 2, roads)

    def test_what_is_no_share_is_not_counted(self):
        for wrong in NO_SHARES:
            self.refused(NoWorth, Net, Chances(), 2, [(0, 0, (1, 1)), (0, 1, wrong)])
            self.refused(NoWorth, Net, Chances(), 2, [(0, 1, wrong), (0, 0, (1, 1))])
            self.refused(NoWorth, Net, Chances(), 2, [(0, 1, wrong)] * 64)
        for above in ((4, 2), (9, 3), (BIG, BIG), (3, -2), (5, 0), 2, BIG):
            self.refused(NoWorth, Net, Chances(), 1, [(0, 0, above)])

    def test_a_share_below_nought_is_counted_but_no_worth(self):
        self.refused(NoWorth, Net, Chances(), 1, [(0, 0, (3, 2)), (0, 0, (-1, 2))])
        self.refused(NoNet, Net, Chances(), 1, [(0, 0, (3, 2)), (0, 0, (-1, 3))])
        for wrong in NEGATIVE_SHARES:
            self.refused(NoWorth, Net, Chances(), 1, [(0, 0, (1, 1)), (0, 0, wrong)])

    def test_other_kinds_are_not_bound(self):
        Net(Likeliest(), 1, [(0, 0, (1, 1))] * 64)
        Net(Fewest(), 1, [(0, 0, 9)] * 64)
        Net(Counted(), 1, [(0, 0, 9)] * 64)


if __name__ == "__main__":
    unittest.main()
