"""Point 6, and by_steps of waysum/sums.py."""

import inspect
import itertools
import math
import unittest

import models
from checks import BIG, Checks
from made_nets import GREAT, edge_nets, long_shares, nets_of
from waysum.errors import NoPlace, NoSteps
from waysum.kinds import Chances, Counted, Fewest, Musts, Rests, Widest
from waysum.nets import Net
from waysum.sums import by_steps

# No second number of a share here is a multiple of it, so each share has a rest by it.
PRIME = 2 ** 127 - 1


class SumsBySteps(Checks):
    def test_its_arguments(self):
        self.assertEqual(list(inspect.signature(by_steps).parameters), ["net", "place", "other", "steps"])

    def test_no_steps_are_the_empty_row_alone(self):
        for model in models.seven():
            for net in edge_nets(model) + nets_of(model, 10):
                for place, other in itertools.product(range(net.places()), repeat=2):
                    wanted = net.kind().rest() if place == other else net.kind().none()
                    self.same(by_steps(net, place, other, 0), wanted)

    def test_one_step_is_the_roads_put_together(self):
        for model in models.seven():
            for net in edge_nets(model) + nets_of(model, 10):
                for place, other in itertools.product(range(net.places()), repeat=2):
                    wanted = model.none
                    for start, end, worth in net.roads():
                        if (start, end) == (place, other):
                            wanted = model.together(wanted, model.into(worth))
                    self.same(by_steps(net, place, other, 1), model.back(wanted))

    def test_by_hand(self):
        ring = [(0, 1, 1), (1, 0, 2), (0, 0, 4), (0, 1, 3)]
        for kind, place, other, steps, wanted in [
            (Fewest(), 0, 1, 1, 1), (Fewest(), 0, 1, 2, 5), (Fewest(), 0, 0, 2, 3), (Fewest(), 1, 1, 1, None),
            (Fewest(), 0, 0, 40, 60), (Fewest(), 0, 1, 40, 62), (Fewest(), 1, 1, 40, 60),
            (Widest(), 0, 1, 1, 3), (Widest(), 0, 1, 2, 3), (Widest(), 1, 1, 1, 0), (Widest(), 0, 0, 40, 4),
            (Counted(), 0, 1, 1, 4), (Counted(), 0, 0, 2, 24), (Counted(), 0, 1, 2, 16), (Counted(), 1, 1, 1, 0),
            (Musts(), 0, 1, 1, 1), (Musts(), 0, 1, 2, 5), (Musts(), 0, 0, 2, 0), (Musts(), 1, 1, 1, None),
        ]:
            with self.subTest(kind=kind, place=place, other=other, steps=steps):
                self.same(by_steps(Net(kind, 2, ring), place, other, steps), wanted)

    def test_just_so_many_roads_not_fewer(self):
        line = [(0, 1, 1), (1, 2, 1)]
        for kind, found, nothing in ((Fewest(), 2, None), (Widest(), 1, 0), (Counted(), 1, 0), (Rests(12), 1, 0)):
            net = Net(kind, 3, line)
            self.same(by_steps(net, 0, 2, 2), found)
            for steps in (0, 1, 3, 4, 39, 40):
                self.same(by_steps(net, 0, 2, steps), nothing)

    def test_chances_by_hand(self):
        net = Net(Chances(), 2, [(0, 0, (1, 2)), (0, 1, (1, 4)), (0, 1, (1, 4)), (1, 0, (1, 3))])
        for place, other, steps, wanted in [
            (0, 0, 1, (1, 2)), (0, 1, 1, (1, 2)), (0, 0, 2, (5, 12)), (0, 1, 2, (1, 4)), (1, 1, 2, (1, 6)),
            (1, 1, 1, (0, 1)), (0, 0, 0, (1, 1)), (0, 1, 0, (0, 1)),
        ]:
            self.same(by_steps(net, place, other, steps), wanted)
        whole = Net(Chances(), 3, [(0, 1, (1, 1)), (1, 2, (1, 1)), (2, 0, (1, 1))])
        self.same(by_steps(whole, 0, 1, 40), (1, 1))
        self.same(by_steps(whole, 0, 0, 40), (0, 1))

    def test_against_all_rows_on_small_nets(self):
        for model in models.seven() + [models.OfRests(1), models.OfRests(5)]:
            for net in nets_of(model, 60, most_places=3, seed=3):
                if len(net.roads()) > 5:
                    continue
                for steps in range(5):
                    for place, other in itertools.product(range(net.places()), repeat=2):
                        with self.subTest(roads=net.roads(), place=place, other=other, steps=steps):
                            wanted = models.by_all_rows(model, net, place, other, steps)
                            self.same(by_steps(net, place, other, steps), wanted)

    def test_up_to_40(self):
        for model in models.seven():
            for net in nets_of(model, 6, seed=4) + edge_nets(model):
                worths = list(itertools.islice(models.by_each_step(model, net, 0), 41))
                for steps in (1, 2, 3, 7, 20, 39, 40):
                    for other in range(net.places()):
                        self.same(by_steps(net, 0, other, steps), model.back(worths[steps][other]))

    def test_great_worths(self):
        for kind, wanted in ((Fewest(), 40 * GREAT), (Counted(), GREAT ** 40), (Musts(), GREAT)):
            self.same(by_steps(Net(kind, 1, [(0, 0, GREAT)]), 0, 0, 40), wanted)
        for kind, wanted in ((Fewest(), 40 * GREAT), (Counted(), 64 ** 40 * GREAT ** 40), (Musts(), GREAT)):
            self.same(by_steps(Net(kind, 1, [(0, 0, GREAT)] * 64), 0, 0, 40), wanted)
        self.same(by_steps(Net(Counted(), 1, [(0, 0, -1)] * 64), 0, 0, 40), -1)

    def test_chances_of_long_shares(self):
        roads = long_shares(2)
        worths = [1] + [0] * 7
        for step in range(40):
            further = [0] * 8
            for start, end, (above, below) in roads:
                further[end] = (further[end] + worths[start] * above * pow(below, -1, PRIME)) % PRIME
            worths = further
        above, below = by_steps(Net(Chances(), 8, roads), 0, 7, 40)
        self.assertEqual(above * pow(below, -1, PRIME) % PRIME, worths[7])
        self.assertEqual(math.gcd(above, below), 1)
        self.assertTrue(0 < above < below)


class StepsRefused(Checks):
    def test_no_steps(self):
        for model in models.seven():
            for net in edge_nets(model):
                by_steps(net, 0, 0, 0)
                by_steps(net, 0, 0, 40)
                for steps in (-1, -2, -40, 41, 42, BIG, -BIG):
                    self.refused(NoSteps, by_steps, net, 0, net.places() - 1, steps)

    def test_no_place_goes_ahead(self):
        for model in models.seven():
            for net in edge_nets(model):
                for wrong in (-1, -net.places(), net.places(), net.places() + 1, BIG, -BIG):
                    for steps in (0, 1, 40, -1, 41):
                        self.refused(NoPlace, by_steps, net, wrong, 0, steps)
                        self.refused(NoPlace, by_steps, net, 0, wrong, steps)
                        self.refused(NoPlace, by_steps, net, wrong, wrong, steps)


if __name__ == "__main__":
    unittest.main()
