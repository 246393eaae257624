import random
import unittest

from searchback.clauses import Clause, InRoom, Is, IsNot, NotInRoom, Put, ToRoom
from searchback.customs import Custom
from searchback.errors import BadSpot, OtherKinds
from searchback.histories import History
from searchback.kinds import Kinds
from searchback.leaner import lean_history, spare_deeds, void_deeds, without_deeds
from tests.helpers import (
    NO_SEQUENCES, NO_WHOLES, Case, plain_custom, random_custom, random_history, told_ends, told_steps,
)

KINDS = Kinds([("open", 0), ("takes", 1), ("sells", 2)])
OTHERS = History(Kinds([("takes", 1)]))
YEARS = [[("takes", "ann"), ("sells", "bob", "cy")], [], [("sells", "ann", "bob"), ("open",), ("takes", "x")]]


def spots_of(history):
    return [(year, place) for year, deeds in enumerate(history.years) for place in range(len(deeds))]


def told_without(history, spots):
    return History(history.kinds, [
        [deed for place, deed in enumerate(deeds) if (year, place) not in spots]
        for year, deeds in enumerate(history.years)])


def told_spare(custom, history):
    ends = told_ends(custom, history)
    return [spot for spot in spots_of(history) if told_ends(custom, told_without(history, [spot])) == ends]


def told_lean(custom, history):
    spare = told_spare(custom, history)
    while spare:
        history = told_without(history, spare[:1])
        spare = told_spare(custom, history)
    return history


class VoidTest(Case):
    def test_void(self):
        custom, kinds = plain_custom(), plain_custom().kinds
        history = History(kinds, [[("takes", "ann"), ("sells", "bob", "cy")], [], [("takes", "a"), ("sells", "ann", "b")]])
        self.assertEqual(void_deeds(custom, history), ((0, 1), (2, 0)))
        self.is_tuple_throughout(void_deeds(custom, history))
        self.assertEqual(void_deeds(custom, History(kinds)), ())
        self.refuses((OtherKinds,), void_deeds, custom, OTHERS)

    def test_a_clause_without_changes_makes_no_deed_void(self):
        custom = Custom(KINDS, ["r"], ["a"], [], [Clause("open")])
        history = History(KINDS, [[("open",), ("takes", "x")]])
        self.assertEqual(void_deeds(custom, history), ((0, 1),))
        self.assertEqual(spare_deeds(custom, history), ((0, 0), (0, 1)))

    def test_against_a_plain_walk(self):
        for seed in range(150):
            custom = random_custom(seed)
            history = random_history(seed, custom.kinds)
            steps = list(told_steps(custom, history))
            void = tuple([row[:2] for row in steps if row[2] is not None and row[3] is None])
            self.assertEqual(void_deeds(custom, history), void)
            left = [row[3:] for row in steps if row[:2] not in void or row[2] is None]
            behind = list(told_steps(custom, without_deeds(history, void)))
            self.assertEqual([row[3:] for row in behind], left)


class WithoutTest(Case):
    def test_without(self):
        history = History(KINDS, YEARS)
        self.assertEqual(without_deeds(history, []), history)
        self.assertIsNot(without_deeds(history, []), history)
        self.assertEqual(without_deeds(history, [(2, 1), [0, 0]]),
                         History(KINDS, [YEARS[0][1:], [], [YEARS[2][0], YEARS[2][2]]]))
        self.assertEqual(without_deeds(history, ([2, 2], (0, 1), (0, 0), (2, 0), (2, 1))), History(KINDS, [[], [], []]))
        self.is_tuple_throughout(without_deeds(history, [(2, 1)]).years)
        for at in range(40):
            spots = random.Random(at).sample(spots_of(history), at % 6)
            self.assertEqual(without_deeds(history, spots), told_without(history, spots))

    def test_refusals(self):
        history = History(KINDS, YEARS)
        for thing in (*NO_SEQUENCES, (), (0,), (0, 0, 0), (0, 2), (1, 0), (3, 0), (-1, 0), (2, -1), (0, 0), [0, 0], "00",
                      {0: 0, 1: 1}):
            self.refuses((BadSpot, 1), without_deeds, history, [(0, 0), thing, None])
        for thing in NO_WHOLES:
            self.refuses((BadSpot, 0), without_deeds, history, [(thing, 0)])
            self.refuses((BadSpot, 2), without_deeds, history, ((0, 0), (0, 1), (2, thing)))
        self.refuses((BadSpot, 3), without_deeds, history, [(0, 0), (2, 1), (0, 1), (2, 1), (0, 0)])
        self.refuses((BadSpot, 0), without_deeds, History(KINDS), [(0, 0)])

    def test_nothing_is_changed_or_kept(self):
        history = History(KINDS, YEARS)
        self.keeps_nothing(lambda spots: without_deeds(history, spots), [[0, 1], [2, 2]])
        self.assertEqual(history, History(KINDS, YEARS))


class SpareTest(Case):
    def test_two_that_need_each_other(self):
        custom = Custom(KINDS, ["calm", "suit"], ["a"], [], [
            Clause("open", [InRoom("calm")], [ToRoom("suit")]), Clause("open", [InRoom("suit")], [ToRoom("suit")])])
        history = History(KINDS, [[("open",), ("open",)]])
        self.assertEqual(spare_deeds(custom, history), ((0, 0), (0, 1)))
        self.is_tuple_throughout(spare_deeds(custom, history))
        self.assertEqual(lean_history(custom, history), History(KINDS, [[("open",)]]))

    def test_what_the_years_end_makes_up_for_is_spare(self):
        custom = Custom(KINDS, ["calm", "suit"], ["a"], [], [
            Clause("open", (), [ToRoom("suit")]), Clause("year", (), [ToRoom("calm")])])
        history = History(KINDS, [[("open",)], [("open",), ("open",)]])
        self.assertEqual(spare_deeds(custom, history), ((0, 0), (1, 0), (1, 1)))
        self.assertEqual(lean_history(custom, history), History(KINDS, [[], []]))

    def test_an_earlier_deed_that_becomes_spare(self):
        # While the second deed stands, the first one keeps it from putting x into the seat.
        custom = Custom(KINDS, ["calm", "suit"], ["a"], [], [
            Clause("open", [InRoom("calm")], [ToRoom("suit")]), Clause("takes", [InRoom("calm")], [Put("a", "first")]),
            Clause("year", (), [ToRoom("calm")])])
        history = History(KINDS, [[("open",), ("takes", "x")], [("takes", "y"), ("open",), ("takes", "x")]])
        self.assertEqual(spare_deeds(custom, history), ((0, 1), (1, 2)))
        self.assertEqual(lean_history(custom, history), History(KINDS, [[], [("takes", "y")]]))

    def test_which_of_several_is_left(self):
        custom = Custom(KINDS, ["calm"], ["a"], [], [Clause("takes", (), [Put("a", "first")])])
        history = History(KINDS, [[("takes", "x"), ("takes", "y"), ("takes", "x")], [("takes", "x")]])
        self.assertEqual(spare_deeds(custom, history), ((0, 0), (0, 1), (1, 0)))
        self.assertEqual(lean_history(custom, history), History(KINDS, [[("takes", "x")], []]))
        custom = custom.with_clauses([Clause("takes", [Is("a", "nobody")], [Put("a", "first")])])
        history = History(KINDS, [[("takes", "x"), ("takes", "x"), ("takes", "y")]])
        self.assertEqual(spare_deeds(custom, history), ((0, 0), (0, 1), (0, 2)))
        self.assertEqual(lean_history(custom, history), History(KINDS, [[("takes", "x")]]))

    def test_no_deeds(self):
        custom = plain_custom()
        for history in (History(custom.kinds), History(custom.kinds, [[], []])):
            self.assertEqual(spare_deeds(custom, history), ())
            self.assertEqual(lean_history(custom, history), history)
            self.assertIsNot(lean_history(custom, history), history)

    def test_refusals(self):
        for call in (spare_deeds, lean_history):
            self.refuses((OtherKinds,), call, plain_custom(), OTHERS)

    def test_against_a_plain_walk(self):
        cut = 0
        for seed in range(400):
            custom = random_custom(seed, most=10, cap=2)
            history = random_history(seed, custom.kinds, years=3, deeds=8, names="abc")
            self.assertEqual(spare_deeds(custom, history), tuple(told_spare(custom, history)))
            lean = lean_history(custom, history)
            self.assertEqual(lean, told_lean(custom, history), seed)
            self.assertEqual(told_ends(custom, lean), told_ends(custom, history))
            self.assertEqual(told_spare(custom, lean), [])
            cut += lean.deed_count < history.deed_count - len(void_deeds(custom, history))
        self.assertTrue(cut > 100)

    def test_earlier_deeds_that_become_spare_at_random(self):
        kinds = Kinds([("x", 0), ("y", 1), ("z", 1)])
        clauses = [
            Clause("x", [InRoom("r")], [ToRoom("s")]), Clause("x", [InRoom("s")], [ToRoom("r")]),
            Clause("y", [InRoom("r"), IsNot("p", "first")], [Put("q", "p"), Put("p", "first")]),
            Clause("y", [InRoom("s"), Is("q", "first")], [Put("p", "nobody"), ToRoom("t")]),
            Clause("z", [NotInRoom("r"), Is("p", "nobody")], [Put("p", "first")]),
            Clause("z", [InRoom("t")], [ToRoom("s")]), Clause("year", [InRoom("t")], [ToRoom("r")])]
        custom = Custom(kinds, ["r", "s", "t"], ["p", "q"], [], clauses)
        for seed in range(120):
            rnd = random.Random(seed)
            deeds = [rnd.choice([("x",), ("y", "a"), ("y", "b"), ("z", "a"), ("z", "c")]) for _ in range(14)]
            history = History(kinds, [deeds])
            self.assertEqual(lean_history(custom, history), told_lean(custom, history), seed)

    def test_a_thousand_deeds_of_one_year(self):
        custom = Custom(KINDS, ["calm", "suit"], ["a", "b"], [], [
            Clause("open", [InRoom("calm")], [ToRoom("suit")]), Clause("open", [InRoom("suit")], [ToRoom("calm")]),
            Clause("takes", [InRoom("suit"), IsNot("a", "first")], [Put("b", "a"), Put("a", "first")])])
        rnd = random.Random(7)
        deeds = [rnd.choice([("open",), ("takes", "x"), ("takes", "y"), ("takes", "z")]) for _ in range(1000)]
        history = History(KINDS, [deeds])
        lean = lean_history(custom, history)
        self.assertEqual(told_ends(custom, lean), told_ends(custom, history))
        self.assertEqual(told_spare(custom, lean), [])
        void = History(KINDS, [[("sells", "x", "y")] * 1000])
        self.assertEqual(lean_history(custom, void), History(KINDS, [[]]))
        self.assertEqual(len(spare_deeds(custom, void)), 1000)

    def test_nothing_is_changed(self):
        custom, history = plain_custom(), random_history(5, plain_custom().kinds)
        years = history.years
        lean_history(custom, history)
        spare_deeds(custom, history)
        self.assertEqual((history.years, custom), (years, plain_custom()))


if __name__ == "__main__":
    unittest.main()
