import unittest

from searchback.bearing import Bears, narrowed, what_bears
from searchback.clauses import (
    Apart, AtLeast, Below, Clause, Halt, InRoom, Is, IsNot, NotInRoom, Put, Run, SamePerson, ToRoom, Zero,
)
from searchback.customs import Custom
from searchback.errors import BadQuestion
from searchback.kinds import Kinds
from searchback.questions import Filled, Reached, Room, Together, Who
from searchback.walks import answers_through
from tests.helpers import Case, Odd, random_custom, random_history

KINDS = Kinds([("open", 0), ("takes", 1), ("sells", 2)])
CLOCKS = [("k", 3, True), ("l", 5, False)]


def custom_of(*clauses):
    return Custom(KINDS, ["calm", "suit", "shut"], ["a", "b", "c"], CLOCKS, clauses)


def told_bears(custom, *questions):
    """The lot once more: parts are put in until no sentence of the point asks for another."""
    lot = set()
    for question in questions:
        if isinstance(question, Room):
            lot.add("room")
        if isinstance(question, (Who, Filled, Together)):
            lot.add(("seat", question.seat))
        if isinstance(question, Together):
            lot.add(("seat", question.other))
        if isinstance(question, Reached):
            lot.add(("clock", question.clock))

    def names(piece):
        found = set()
        if hasattr(piece, "room"):
            found.add("room")
        if hasattr(piece, "seat"):
            found.update(("seat", seat) for seat in (piece.seat, piece.what) if seat in custom.seats)
        if hasattr(piece, "clock"):
            found.add(("clock", piece.clock))
        return found

    def changed(piece):
        if isinstance(piece, Put):
            return {("seat", piece.seat)}
        return names(piece)

    while True:
        asked = set()
        clauses = set()
        for index, clause in enumerate(custom.clauses):
            if any(changed(change) & lot for change in clause.changes):
                for at, other in enumerate(custom.clauses[:index + 1]):
                    if other.kind == clause.kind:
                        clauses.add(at)
                        for condition in other.conditions:
                            asked |= names(condition)
                        for change in other.changes:
                            if isinstance(change, Put) and ("seat", change.seat) in lot:
                                asked |= names(change)
        if asked <= lot:
            return lot, tuple(sorted(clauses))
        lot |= asked


def questions_of(custom):
    found = [Room()]
    for seat in custom.seats:
        found.extend([Who(seat), Filled(seat)])
    found.extend([Together(one, other) for one in custom.seats for other in custom.seats if one != other])
    found.extend([Reached(clock[0], number) for clock in custom.clocks for number in (1, clock[1])])
    return found


class BearsTest(Case):
    def test_equal_by_all_four(self):
        self.same_only(lambda: Bears(True, ("a",), ("k",), (0, 1)), [
            Bears(False, ("a",), ("k",), (0, 1)), Bears(True, (), ("k",), (0, 1)), Bears(True, ("a",), (), (0, 1)),
            Bears(True, ("a",), ("k",), (0,)), (True, ("a",), ("k",), (0, 1))])
        bears = Bears(1, 2, 3, 4)
        self.assertEqual((bears.room, bears.seats, bears.clocks, bears.clauses), (1, 2, 3, 4))

    def test_questions_alone(self):
        custom = custom_of()
        told = [(Room(), Bears(True, (), (), ())), (Who("b"), Bears(False, ("b",), (), ())),
                (Filled("c"), Bears(False, ("c",), (), ())), (Together("c", "a"), Bears(False, ("a", "c"), (), ())),
                (Reached("l", 5), Bears(False, (), ("l",), ()))]
        for question, bears in told:
            found = what_bears(custom, question)
            self.assertEqual(found, bears)
            self.assertIs(type(found.room), bool)
            for thing in (found.seats, found.clocks, found.clauses):
                self.is_tuple_throughout(thing)
        self.assertEqual(what_bears(custom, Reached("l", 1), Who("c"), Room(), Who("a"), Reached("k", 1)),
                         Bears(True, ("a", "c"), ("k", "l"), ()))

    def test_conditions_of_the_clause_and_of_earlier_ones_of_its_kind(self):
        custom = custom_of(
            Clause("takes", [InRoom("calm")], [Put("c", "first")]), Clause("open", [AtLeast("k", 1)], [Put("c", "a")]),
            Clause("takes", [], [Put("a", "first")]), Clause("takes", [AtLeast("l", 1)], [Put("b", "first")]))
        self.assertEqual(what_bears(custom, Who("a")), Bears(True, ("a",), (), (0, 2)))
        self.assertEqual(what_bears(custom, Who("b")), Bears(True, ("b",), ("l",), (0, 2, 3)))
        self.assertEqual(what_bears(custom, Who("c")), Bears(True, ("a", "c"), ("k",), (0, 1, 2)))

    def test_each_condition_and_change(self):
        for piece, bears in ((InRoom("suit"), Bears(True, ("a",), (), (0,))), (Apart(), Bears(False, ("a",), (), (0,))),
                             (NotInRoom("suit"), Bears(True, ("a",), (), (0,))),
                             (SamePerson(), Bears(False, ("a",), (), (0,))),
                             (Is("b", "first"), Bears(False, ("a", "b"), (), (0,))),
                             (IsNot("b", "nobody"), Bears(False, ("a", "b"), (), (0,))),
                             (Is("b", "c"), Bears(False, ("a", "b", "c"), (), (0,))),
                             (Below("k", 1), Bears(False, ("a",), ("k",), (0,)))):
            self.assertEqual(what_bears(custom_of(Clause("sells", [piece], [Put("a", "first")])), Who("a")), bears)
        for change in (Zero("k"), Run("k"), Halt("k")):
            custom = custom_of(Clause("open"), Clause("open", [InRoom("calm")], [change]))
            self.assertEqual(what_bears(custom, Reached("k", 1)), Bears(True, (), ("k",), (0, 1)))
        custom = custom_of(Clause("year", [AtLeast("k", 1)], [ToRoom("suit")]))
        self.assertEqual(what_bears(custom, Room()), Bears(True, (), ("k",), (0,)))

    def test_puts_that_are_read_from_a_seat(self):
        custom = custom_of(Clause("open", [], [Put("b", "c"), Put("a", "b")]), Clause("takes", [], [Put("c", "first")]))
        self.assertEqual(what_bears(custom, Who("a")), Bears(False, ("a", "b", "c"), (), (0, 1)))
        self.assertEqual(what_bears(custom, Who("b")), Bears(False, ("b", "c"), (), (0, 1)))
        self.assertEqual(what_bears(custom, Who("c")), Bears(False, ("c",), (), (1,)))

    def test_against_the_sentences(self):
        for seed in range(150):
            custom = random_custom(seed, most=12)
            questions = questions_of(custom)
            for at, question in enumerate(questions):
                more = questions[at + 3:at + 3 + seed % 3]
                lot, clauses = told_bears(custom, question, *more)
                seats = tuple([seat for seat in custom.seats if ("seat", seat) in lot])
                clocks = tuple([clock[0] for clock in custom.clocks if ("clock", clock[0]) in lot])
                self.assertEqual(what_bears(custom, question, *more), Bears("room" in lot, seats, clocks, clauses))


class NarrowedTest(Case):
    def test_what_is_kept(self):
        custom = custom_of(
            Clause("takes", [Is("b", "nobody")], [Put("c", "first"), Put("b", "first"), ToRoom("suit"), Zero("k")]),
            Clause("open", [InRoom("suit")], [ToRoom("calm"), Run("l")]),
            Clause("takes", [IsNot("b", "first")], [Zero("k")]),
            Clause("year", [AtLeast("l", 2), Below("l", 5)], [Put("b", "nobody"), Halt("k")]))
        self.assertEqual(narrowed(custom, Who("b")), Custom(KINDS, ["calm", "suit", "shut"], ["b"], CLOCKS[1:], [
            Clause("takes", [Is("b", "nobody")], [Put("b", "first"), ToRoom("suit")]),
            Clause("open", [InRoom("suit")], [ToRoom("calm"), Run("l")]),
            Clause("year", [AtLeast("l", 2), Below("l", 5)], [Put("b", "nobody")])]))

    def test_without_seats_rooms_and_clocks(self):
        custom = custom_of(Clause("open", (), [Put("a", "b"), Zero("k")]), Clause("takes", (), [Put("b", "first")]))
        self.assertEqual(narrowed(custom, Reached("k", 1)),
                         Custom(KINDS, ["calm"], ["a"], CLOCKS[:1], [Clause("open", (), [Zero("k")])]))
        self.assertEqual(narrowed(custom, Who("b")),
                         Custom(KINDS, ["calm"], ["b"], [], [Clause("takes", (), [Put("b", "first")])]))
        self.assertEqual(narrowed(custom, Room()),
                         Custom(KINDS, ["calm", "suit", "shut"], ["a"], [], []))
        self.assertEqual(narrowed(custom, Together("b", "a")).seats, ("a", "b"))

    def test_both_answer_alike(self):
        for seed in range(80):
            custom = random_custom(seed, most=10)
            for question in questions_of(custom):
                other = narrowed(custom, question)
                self.assertIsNone(question.fault(other))
                for at in range(4):
                    history = random_history(seed * 50 + at, custom.kinds, deeds=6)
                    told = answers_through(custom, history, question)
                    self.assertEqual(answers_through(other, history, question), told)

    def test_narrowed_again(self):
        for seed in range(60):
            custom = random_custom(seed)
            for question in questions_of(custom):
                once = narrowed(custom, question)
                self.assertEqual(narrowed(once, question), once)

    def test_refusals(self):
        custom = custom_of()
        for call in (what_bears, narrowed):
            for thing in (None, "room", Odd(), Room, [Room()], Is("a", "b")):
                self.refuses((BadQuestion, "question"), call, custom, thing)
                self.refuses((BadQuestion, "question"), call, custom, Room(), thing, Who("d"))
            self.refuses((BadQuestion, "seat"), call, custom, Who("d"), None)
            self.refuses((BadQuestion, "seat"), call, custom, Together("a", "d"))
            self.refuses((BadQuestion, "clock"), call, custom, Room(), Reached("m", 1), None)
            self.refuses((BadQuestion, "number"), call, custom, Reached("k", 3), Reached("k", 4), Who("d"))

    def test_nothing_is_changed(self):
        custom = custom_of(Clause("open", (), [Put("a", "b"), Zero("k")]))
        narrowed(custom, Who("b"))
        self.assertEqual(custom, custom_of(Clause("open", (), [Put("a", "b"), Zero("k")])))
        self.assertIsNot(narrowed(custom, Who("a"), Who("b"), Who("c"), Room(), Reached("k", 1)), custom)


if __name__ == "__main__":
    unittest.main()
