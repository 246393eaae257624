import unittest

from searchback import clauses
from searchback.clauses import (
    Apart, AtLeast, Below, Change, Clause, Condition, Halt, InRoom, Is, IsNot, NotInRoom, Put, Run, SamePerson,
    ToRoom, Zero,
)
from searchback.errors import BadChange, BadClause, BadCondition
from tests.helpers import NO_LABELS, NO_SEQUENCES, NO_WHOLES, SEATLESS, Case

CONDITIONS = [
    lambda: InRoom("a"), lambda: NotInRoom("a"), lambda: Is("a", "b"), lambda: IsNot("a", "b"), SamePerson, Apart,
    lambda: AtLeast("a", 3), lambda: Below("a", 3), lambda: InRoom("b"), lambda: NotInRoom("b"), lambda: Is("a", "c"),
    lambda: Is("c", "b"), lambda: IsNot("a", "c"), lambda: IsNot("c", "b"), lambda: AtLeast("b", 3),
    lambda: AtLeast("a", 4), lambda: Below("b", 3), lambda: Below("a", 4),
]
CHANGES = [
    lambda: ToRoom("a"), lambda: Put("a", "b"), lambda: Zero("a"), lambda: Run("a"), lambda: Halt("a"),
    lambda: ToRoom("b"), lambda: Put("a", "c"), lambda: Put("c", "b"), lambda: Zero("b"), lambda: Run("b"),
    lambda: Halt("b"),
]


class PiecesTest(Case):
    def test_attributes(self):
        for make in (InRoom, NotInRoom, ToRoom):
            self.assertEqual(vars(make("calm")), {"room": "calm"})
        for make in (Is, IsNot, Put):
            self.assertEqual(vars(make("owner", "first")), {"seat": "owner", "what": "first"})
        for make in (AtLeast, Below):
            self.assertEqual(vars(make("idle", 40)), {"clock": "idle", "number": 40})
        for make in (Zero, Run, Halt):
            self.assertEqual(vars(make("first")), {"clock": "first"})

    def test_bases(self):
        for make in CONDITIONS:
            self.assertIsInstance(make(), Condition)
            self.assertNotIsInstance(make(), Change)
        for make in CHANGES:
            self.assertIsInstance(make(), Change)
            self.assertNotIsInstance(make(), Condition)

    def test_equal_by_class_and_attributes(self):
        made = [*CONDITIONS, *CHANGES]
        for index, make in enumerate(made):
            others = [other() for at, other in enumerate(made) if at != index]
            self.same_only(make, [*others, Condition(), Change()])
        self.same_only(Condition, [Change()])
        self.same_only(Change, [Condition()])

    def test_a_class_of_the_same_name_is_another_class(self):
        for make in (Condition, Change, SamePerson, Apart, *CONDITIONS, *CHANGES):
            other = type(type(make()).__name__, (), vars(make()))()
            self.assertFalse(make() == other)
            self.assertTrue(make() != other)

    def test_listed_methods_stand_in_the_classes(self):
        for make in CONDITIONS:
            self.assertIn("opposite", vars(type(make())))
            self.assertIn("__eq__", vars(type(make())))
        for make in (*CHANGES, Condition, Change):
            self.assertIn("__eq__", vars(type(make())))

    def test_room(self):
        for thing in NO_LABELS:
            self.refuses((BadCondition, "room"), InRoom, thing)
            self.refuses((BadCondition, "room"), NotInRoom, thing)
            self.refuses((BadChange, "room"), ToRoom, thing)

    def test_seat_and_what(self):
        for make, error in ((Is, BadCondition), (IsNot, BadCondition), (Put, BadChange)):
            for what in ("first", "second", "nobody", "heir"):
                self.assertEqual(make("owner", what).what, what)
            for thing in (*NO_LABELS, *SEATLESS):
                self.refuses((error, "seat"), make, thing, "heir")
                self.refuses((error, "seat"), make, thing, thing)
            for thing in (*NO_LABELS, "owner"):
                self.refuses((error, "what"), make, "owner", thing)

    def test_clock_and_number(self):
        for make in (AtLeast, Below):
            self.assertEqual([make("a", number).number for number in (1, 40)], [1, 40])
            for thing in NO_LABELS:
                self.refuses((BadCondition, "clock"), make, thing, 0)
            for thing in (*NO_WHOLES, 0, -1, 41):
                self.refuses((BadCondition, "number"), make, "a", thing)
        for make in (Zero, Run, Halt):
            for thing in NO_LABELS:
                self.refuses((BadChange, "clock"), make, thing)

    def test_opposite(self):
        pairs = ((InRoom("a"), NotInRoom("a")), (Is("a", "b"), IsNot("a", "b")), (SamePerson(), Apart()),
                 (AtLeast("a", 3), Below("a", 3)))
        for one, other in pairs:
            self.assertEqual(one.opposite(), other)
            self.assertEqual(other.opposite(), one)
            self.assertEqual(one.opposite().opposite(), one)


class ClauseTest(Case):
    def test_attributes(self):
        clause = Clause("sells", [Is("owner", "first")], [Put("owner", "second"), Zero("idle")])
        self.assertEqual(clause.kind, "sells")
        self.assertEqual(clause.conditions, (Is("owner", "first"),))
        self.assertEqual(clause.changes, (Put("owner", "second"), Zero("idle")))
        self.is_tuple_throughout(clause.conditions)
        self.is_tuple_throughout(clause.changes)
        self.assertEqual((Clause("year").conditions, Clause("year").changes), ((), ()))
        self.assertEqual(Clause("year").kind, "year")

    def test_kind(self):
        for thing in NO_LABELS:
            self.refuses((BadClause, 0, "kind"), Clause, thing, None, None)

    def test_conditions(self):
        six = [InRoom(name) for name in "abcdef"]
        self.assertEqual(len(Clause("a", six).conditions), 6)
        for thing in (*NO_SEQUENCES, [*six, InRoom("g")], [None] * 7, InRoom("a")):
            self.refuses((BadClause, 0, "conditions"), Clause, "a", thing, None)
        for thing in (None, "same", ToRoom("a"), SamePerson, [SamePerson()], Clause("a")):
            self.refuses((BadClause, 1, "condition"), Clause, "a", [Apart(), thing, Apart()], None)
        self.refuses((BadClause, 2, "double"), Clause, "a", [Is("a", "b"), Apart(), Is("a", "b"), None], None)
        self.refuses((BadClause, 1, "double"), Clause, "a", [Apart(), Apart(), None])
        self.assertEqual(len(Clause("a", [Apart(), SamePerson(), Is("a", "b"), Is("b", "a")]).conditions), 4)

    def test_changes(self):
        eight = [ToRoom("a"), Put("a", "b"), Put("b", "a"), Put("c", "a"), Zero("k"), Run("k"), Zero("l"), Halt("l")]
        self.assertEqual(len(Clause("a", (), eight).changes), 8)
        for thing in (*NO_SEQUENCES, [*eight, Zero("m")], [None] * 9, Zero("a")):
            self.refuses((BadClause, 0, "changes"), Clause, "a", (), thing)
        for thing in (None, "a to 0", Apart(), Zero, [Zero("a")]):
            self.refuses((BadClause, 1, "change"), Clause, "a", (), [Zero("a"), thing, Zero("a")])

    def test_twice(self):
        for one, other in ((ToRoom("a"), ToRoom("b")), (Put("a", "b"), Put("a", "c")), (Zero("a"), Zero("a")),
                           (Run("a"), Run("a")), (Run("a"), Halt("a")), (Halt("a"), Run("a")), (Halt("a"), Halt("a"))):
            self.refuses((BadClause, 2, "twice"), Clause, "a", (), [one, Zero("z"), other, None])
        fine = [ToRoom("a"), Put("a", "b"), Zero("a"), Run("a"), Put("b", "a"), Zero("b"), Halt("b")]
        self.assertEqual(len(Clause("a", (), fine).changes), 7)

    def test_conditions_ahead_of_changes(self):
        self.refuses((BadClause, 0, "condition"), Clause, "a", [None], None)
        self.refuses((BadClause, 0, "changes"), Clause, "a", [Apart()], None)
        self.refuses((BadClause, 0, "kind"), Clause, "A", [None], None)

    def test_arity(self):
        told = {
            0: [Clause("a"), Clause("a", [Is("a", "b"), IsNot("a", "nobody"), InRoom("first"), AtLeast("second", 1)],
                                    [ToRoom("second"), Put("a", "nobody"), Put("b", "a"), Zero("first"), Run("second")])],
            1: [Clause("a", [Is("a", "first")]), Clause("a", [IsNot("a", "first")]),
                Clause("a", (), [Put("a", "first")]), Clause("a", [Is("a", "b")], [Put("b", "a"), Put("a", "first")])],
            2: [Clause("a", [Is("a", "second")]), Clause("a", [IsNot("a", "second")]), Clause("a", [SamePerson()]),
                Clause("a", [Apart()]), Clause("a", (), [Put("a", "second")]),
                Clause("a", [Is("a", "first")], [Put("a", "second")]),
                Clause("a", [Is("a", "second")], [Put("a", "first")])],
        }
        for arity, rows in told.items():
            for clause in rows:
                self.assertEqual(clause.arity, arity)
                self.assertIs(type(clause.arity), int)

    def test_with_condition(self):
        clause = Clause("a", [Apart()], [Zero("k")])
        self.assertEqual(clause.with_condition(InRoom("a")), Clause("a", [Apart(), InRoom("a")], [Zero("k")]))
        self.assertEqual(clause, Clause("a", [Apart()], [Zero("k")]))
        for thing in (None, "same", Zero("k"), [InRoom("a")]):
            self.refuses((BadClause, 1, "condition"), clause.with_condition, thing)
            self.refuses((BadClause, 1, "condition"), clause.split, thing)
        self.refuses((BadClause, 1, "double"), clause.with_condition, Apart())
        full = Clause("a", [InRoom(name) for name in "abcdef"])
        for thing in (Apart(), InRoom("a"), None):
            self.refuses((BadClause, 0, "conditions"), full.with_condition, thing)
            self.refuses((BadClause, 0, "conditions"), full.split, thing)

    def test_split(self):
        clause = Clause("a", [Is("a", "b")], [Zero("k")])
        halves = clause.split(AtLeast("k", 2))
        self.assertEqual(halves, (Clause("a", [Is("a", "b"), AtLeast("k", 2)], [Zero("k")]),
                                  Clause("a", [Is("a", "b"), Below("k", 2)], [Zero("k")])))
        self.is_tuple_throughout(halves)
        self.refuses((BadClause, 1, "double"), clause.split, Is("a", "b"))
        self.refuses((BadClause, 1, "double"), clause.split, IsNot("a", "b"))

    def test_equal_in_order(self):
        def make():
            return Clause("a", [Apart(), InRoom("a")], [Zero("k"), Run("k")])
        self.same_only(make, [
            Clause("b", [Apart(), InRoom("a")], [Zero("k"), Run("k")]), Clause("a", [Apart()], [Zero("k"), Run("k")]),
            Clause("a", [InRoom("a"), Apart()], [Zero("k"), Run("k")]),
            Clause("a", [Apart(), InRoom("a")], [Run("k"), Zero("k")]), Clause("a", [Apart(), InRoom("a")]),
            Clause("a", [SamePerson(), InRoom("a")], [Zero("k"), Run("k")])])

    def test_keeps_nothing(self):
        self.keeps_nothing(lambda held, done: Clause("a", held, done), [Apart(), InRoom("a")], [Zero("k")])

    def test_classes_stand_in_their_file(self):
        for name in ("Condition", "Change", "InRoom", "NotInRoom", "Is", "IsNot", "SamePerson", "Apart", "AtLeast",
                     "Below", "ToRoom", "Put", "Zero", "Run", "Halt", "Clause"):
            self.assertEqual(getattr(clauses, name).__module__, "searchback.clauses")


if __name__ == "__main__":
    unittest.main()
