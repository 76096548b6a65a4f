"""What all kinds have in common: the interface of waysum/kinds.py, and that kinds are never changed."""

import inspect
import unittest

from checks import BIG, Checks
from waysum import kinds

METHODS = {
    "none": ["self"],
    "rest": ["self"],
    "is_worth": ["self", "some"],
    "together": ["self", "one", "other"],
    "behind": ["self", "one", "other"],
    "rounds": ["self", "one"],
    "picks": ["self"],
}

WHOLES = [0, 1, 2, 3, 5, 6, 12, 10 ** 9 - 1, 10 ** 9, BIG - 1, BIG]
UP_TO_ONE = [(0, 1), (1, BIG), (1, 3), (1, 2), (2, 3), (BIG - 1, BIG), (1, 1)]


def all_kinds():
    """Each kind with some of its worths."""
    told = [
        (kinds.Fewest(), [None] + WHOLES),
        (kinds.Widest(), [0, 1, 2, 7, 10 ** 9 - 1, 10 ** 9]),
        (kinds.Counted(), [-1] + WHOLES),
        (kinds.Likeliest(), UP_TO_ONE),
        (kinds.Chances(), UP_TO_ONE + [(3, 2), (5, 3), (BIG, BIG - 1), (BIG, 1)]),
        (kinds.Musts(), [None] + WHOLES),
    ]
    for m in range(1, 13):
        whole = 2 ** m - 1
        told.append((kinds.Rests(m), sorted({0, 1, whole // 3, whole // 2, whole - whole // 3, whole - 1, whole})))
    return told


class TheInterface(Checks):
    def test_the_classes_stand_under_kind(self):
        names = ["Fewest", "Widest", "Counted", "Likeliest", "Chances", "Musts", "Rests"]
        for name in names:
            one = getattr(kinds, name)
            self.assertTrue(issubclass(one, kinds.Kind))
            others = [getattr(kinds, other) for other in names if other != name]
            self.assertFalse(any(issubclass(one, other) for other in others))

    def test_the_methods_and_their_arguments(self):
        for each in [kinds.Kind] + [type(kind) for kind, worths in all_kinds()]:
            for name, arguments in METHODS.items():
                with self.subTest(each=each, name=name):
                    self.assertEqual(list(inspect.signature(getattr(each, name)).parameters), arguments)

    def test_arguments_may_go_by_their_names(self):
        kind = kinds.Rests(m=3)
        self.same(kind.together(one=1, other=2), 3)
        self.same(kind.behind(one=2, other=4), 1)
        self.same(kind.rounds(one=2), 7)
        self.assertIs(kind.is_worth(some=8), False)

    def test_six_kinds_are_made_of_nothing(self):
        for each in (kinds.Fewest, kinds.Widest, kinds.Counted, kinds.Likeliest, kinds.Chances, kinds.Musts):
            self.assertIsInstance(each(), kinds.Kind)
            self.assertEqual(len(inspect.signature(each).parameters), 0)


class WhoPicks(Checks):
    def test_fewest_widest_and_likeliest_alone(self):
        for kind, worths in all_kinds():
            with self.subTest(kind=kind):
                wanted = isinstance(kind, (kinds.Fewest, kinds.Widest, kinds.Likeliest))
                self.assertIs(kind.picks(), wanted)


class TheLaws(Checks):
    """What follows from the table for each kind, asked of many worths at once."""

    def test_what_is_told_is_a_worth(self):
        for kind, worths in all_kinds():
            with self.subTest(kind=kind):
                self.are_worths(kind, worths + [kind.none(), kind.rest()])
                for one in worths:
                    for other in worths:
                        self.assertIs(kind.is_worth(kind.together(one, other)), True)
                        self.assertIs(kind.is_worth(kind.behind(one, other)), True)

    def test_none_adds_nothing_and_leads_nowhere(self):
        for kind, worths in all_kinds():
            for one in worths:
                self.either_order(kind.together, kind.none(), one, one)
                self.either_order(kind.behind, kind.none(), one, kind.none())

    def test_rest_lengthens_nothing(self):
        for kind, worths in all_kinds():
            for one in worths:
                self.either_order(kind.behind, kind.rest(), one, one)

    def test_both_orders_are_alike(self):
        for kind, worths in all_kinds():
            for one in worths:
                for other in worths:
                    self.same(kind.together(one, other), kind.together(other, one))
                    self.same(kind.behind(one, other), kind.behind(other, one))

    def test_three_worths_may_be_taken_in_any_grouping(self):
        for kind, worths in all_kinds():
            together = kind.together
            behind = kind.behind
            for a in worths:
                for b in worths:
                    for c in worths:
                        self.same(together(together(a, b), c), together(a, together(b, c)))
                        self.same(behind(behind(a, b), c), behind(a, behind(b, c)))
                        self.same(behind(a, together(b, c)), together(behind(a, b), behind(a, c)))

    def test_rounds_are_none_at_all_or_one_and_further_rounds(self):
        for kind, worths in all_kinds():
            for one in worths:
                if isinstance(kind, kinds.Chances) and one[0] >= one[1]:
                    continue
                round_and_round = kind.rounds(one)
                once_more = kind.together(kind.rest(), kind.behind(one, round_and_round))
                with self.subTest(kind=kind, one=one):
                    self.same(round_and_round, once_more)


class NothingIsKept(Checks):
    def ask_everything(self, kind, worths):
        told = [kind.none(), kind.rest(), kind.picks()]
        for one in worths:
            told.append(kind.is_worth(one))
            if not isinstance(kind, kinds.Chances) or one[0] < one[1]:
                told.append(kind.rounds(one))
            for other in worths:
                told.append(kind.together(one, other))
                told.append(kind.behind(one, other))
        return told

    def test_a_kind_answers_alike_however_often_it_is_asked(self):
        for kind, worths in all_kinds():
            with self.subTest(kind=kind):
                held = dict(vars(kind))
                first = self.ask_everything(kind, worths)
                self.ask_everything(kind, list(reversed(worths)))
                self.assertEqual(self.ask_everything(kind, worths), first)
                self.assertEqual(vars(kind), held)

    def test_many_kinds_side_by_side_answer_like_each_alone(self):
        alone = [self.ask_everything(kind, worths) for kind, worths in all_kinds()]
        side_by_side = all_kinds()
        for kind, worths in reversed(side_by_side):
            self.ask_everything(kind, worths)
        self.assertEqual([self.ask_everything(kind, worths) for kind, worths in side_by_side], alone)


if __name__ == "__main__":
    unittest.main()
