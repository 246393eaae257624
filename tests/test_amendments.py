import unittest

from searchback.amendments import Amendment, Drop, Limit, PutIn, Swap
from searchback.clauses import AtLeast, Below, Clause, Halt, InRoom, Is, Put, SamePerson, ToRoom, Zero
from searchback.customs import Custom
from searchback.errors import BadAmendment
from searchback.kinds import Kinds
from tests.helpers import NO_WHOLES, Case, Odd, clocked_custom, wide_custom


class AmendmentsTest(Case):
    def test_attributes_and_what_is_touched(self):
        clause = Clause("x")
        drop, put_in, limit, swap = Drop(3), PutIn(12, clause), Limit(11, 5, 40), Swap(10)
        self.assertEqual((drop.clause, drop.touched), (3, (3,)))
        self.assertEqual((put_in.place, put_in.clause, put_in.touched), (12, clause, ()))
        self.assertEqual((limit.clause, limit.condition, limit.limit, limit.touched), (11, 5, 40, (11,)))
        self.assertEqual((swap.clause, swap.touched), (10, (10, 11)))
        for one in (drop, put_in, limit, swap):
            self.assertEqual(one.__class__.__bases__, (Amendment,))

    def test_equality(self):
        clause, other = Clause("x"), Clause("y")
        self.same_only(lambda: Drop(3), [Drop(2), Swap(3), Limit(3, 0, 1), PutIn(3, clause)])
        self.same_only(lambda: PutIn(3, clause), [PutIn(2, clause), PutIn(3, other), Drop(3)])
        self.same_only(lambda: Limit(3, 2, 1), [Limit(2, 2, 1), Limit(3, 1, 1), Limit(3, 2, 2), Drop(3)])
        self.same_only(lambda: Swap(3), [Swap(4), Drop(3)])

    def test_refused_arguments(self):
        clause = Clause("x")
        for bad in (*NO_WHOLES, -1, 12):
            self.refuses((BadAmendment, "clause"), Drop, bad)
            self.refuses((BadAmendment, "clause"), Limit, bad, None, None)
        for bad in (*NO_WHOLES, -1, 11):
            self.refuses((BadAmendment, "clause"), Swap, bad)
        for bad in (*NO_WHOLES, -1, 13):
            self.refuses((BadAmendment, "place"), PutIn, bad, None)
        for bad in (None, Odd(), "x", 3, (clause,), InRoom("r")):
            self.refuses((BadAmendment, "clause"), PutIn, 12, bad)
        for bad in (*NO_WHOLES, -1, 6):
            self.refuses((BadAmendment, "condition"), Limit, 11, bad, None)
        for bad in (*NO_WHOLES, -1, 0, 41):
            self.refuses((BadAmendment, "limit"), Limit, 11, 5, bad)
        self.assertEqual((Drop(11).clause, Swap(0).touched, PutIn(0, clause).place, Limit(0, 0, 1).limit), (11, (0, 1), 0, 1))


class FaultTest(Case):
    def test_touched_clauses(self):
        custom = wide_custom()
        many = len(custom)
        for index in range(12):
            self.assertEqual(Drop(index).fault(custom), None if index < many else "clause")
            self.assertEqual(Limit(index, 5, 40).fault(custom), "condition" if index < many else "clause")
        for index in range(11):
            self.assertEqual(Swap(index).fault(custom), None if index < many - 1 else "clause")
        none = custom.with_clauses([])
        self.assertEqual([one.fault(none) for one in (Drop(0), Swap(0), Limit(0, 0, 1))], ["clause"] * 3)
        self.assertEqual(Swap(0).fault(custom.with_clauses(custom.clauses[:1])), "clause")

    def test_put_in(self):
        custom = clocked_custom(1, 1, 3, kinds=[("x", 1), ("y", 2)], clauses=[Clause("x"), Clause("y")])
        for place in range(13):
            self.assertEqual(PutIn(place, Clause("year")).fault(custom), None if place <= 2 else "place")
        bad = [Clause("z"), Clause("x", [SamePerson()]), Clause("x", [InRoom("s")]), Clause("x", [], [Put("q", "first")]),
               Clause("x", [Is("p", "q")]), Clause("x", [], [Halt("l")]), Clause("x", [AtLeast("k", 4)]),
               Clause("year", [], [Put("p", "first")]), Clause("x", [], [ToRoom("t")]), Clause("y", [], [Zero("l")])]
        for clause in bad:
            for place in (0, 2):
                self.assertEqual(PutIn(place, clause).fault(custom), "clause")
            self.assertEqual(PutIn(3, clause).fault(custom), "place")
        right = [Clause("y", [SamePerson()]), Clause("x", [AtLeast("k", 3), InRoom("r")], [Put("p", "first")])]
        for clause in right:
            self.assertIsNone(PutIn(1, clause).fault(custom))
        # A clause that stands there already may be put in, and into a custom that is full, too.
        full = custom.with_clauses([Clause("x")] * 12)
        self.assertIsNone(PutIn(12, Clause("x")).fault(full))

    def test_limit(self):
        custom = Custom(Kinds([("x", 1)]), ["r"], ["p"], [("k", 3, True), ("l", 9, True)], [
            Clause("x", [InRoom("r"), AtLeast("k", 2), Below("l", 9)]), Clause("x")])
        self.assertEqual([Limit(0, index, 1).fault(custom) for index in range(6)], ["condition", None, None] + ["condition"] * 3)
        self.assertEqual(Limit(1, 0, 1).fault(custom), "condition")
        self.assertEqual([Limit(0, 1, limit).fault(custom) for limit in (1, 2, 3, 4, 40)], [None, None, None, "limit", "limit"])
        self.assertEqual([Limit(0, 2, limit).fault(custom) for limit in (4, 9, 10)], [None, None, "limit"])
        self.assertEqual(Limit(0, 0, 40).fault(custom), "condition")
        self.assertEqual(Limit(2, 0, 40).fault(custom), "clause")


if __name__ == "__main__":
    unittest.main()
