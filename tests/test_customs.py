import unittest

from searchback.clauses import (
    Apart, AtLeast, Below, Clause, Halt, InRoom, Is, IsNot, NotInRoom, Put, Run, SamePerson, ToRoom, Zero,
)
from searchback.customs import Custom
from searchback.errors import BadClause, BadCustom, BadDeed, BadStand, NoClause
from searchback.kinds import Kinds
from searchback.stand import Stand
from tests.helpers import (
    NO_LABELS, NO_SEQUENCES, NO_WHOLES, SEATLESS, Case, all_deeds, every_stand, random_custom, random_stand,
    told_acting, told_after, told_ticked, wide_custom,
)

KINDS = Kinds([("open", 0), ("takes", 1), ("sells", 2)])
CLOCKS = [("idle", 3, True), ("age", 5, False)]


def simple(*clauses, rooms=("calm", "suit"), seats=("owner", "heir"), clocks=CLOCKS):
    return Custom(KINDS, rooms, seats, clocks, clauses)


class CustomTest(Case):
    def test_attributes(self):
        clause = Clause("open", [], [ToRoom("suit")])
        custom = Custom(KINDS, ["calm", "suit"], ["owner", "heir"], [["idle", 3, True], ("age", 5, False)], [clause])
        self.assertEqual(custom.kinds, KINDS)
        self.assertEqual(custom.rooms, ("calm", "suit"))
        self.assertEqual(custom.seats, ("owner", "heir"))
        self.assertEqual(custom.clocks, (("idle", 3, True), ("age", 5, False)))
        self.assertEqual(custom.clauses, (clause,))
        for thing in (custom.rooms, custom.seats, custom.clocks, custom.clauses):
            self.is_tuple_throughout(thing)
        self.assertEqual(custom.start, Stand("calm", [None, None], [(0, True), (0, False)]))
        self.assertEqual(len(custom), 1)
        self.assertEqual(list(custom), [clause])
        self.assertEqual(list(wide_custom()), list(wide_custom().clauses))
        self.assertEqual(len(wide_custom()), 8)
        self.assertEqual(wide_custom().start, Stand("calm", [None] * 3, [(0, True), (0, False)]))

    def test_kinds_and_rooms(self):
        for thing in (None, (("open", 0),), "open 0", Kinds):
            self.refuses((BadCustom, 0, "kinds"), Custom, thing, None, None, None, None)
        for thing in (*NO_SEQUENCES, (), [], ["a", "b", "c", "d"], [None] * 4):
            self.refuses((BadCustom, 0, "rooms"), Custom, KINDS, thing, None, None, None)
        for thing in (*NO_LABELS, "a"):
            self.refuses((BadCustom, 1, "room"), Custom, KINDS, ["a", thing, None], None, None, None)
        self.refuses((BadCustom, 2, "room"), Custom, KINDS, ["a", "b", "a"], None, None, None)

    def test_seats(self):
        for thing in (*NO_SEQUENCES, (), [], ["a", "b", "c", "d"], [None] * 4):
            self.refuses((BadCustom, 0, "seats"), Custom, KINDS, ["a"], thing, None, None)
        for thing in (*NO_LABELS, *SEATLESS, "a"):
            self.refuses((BadCustom, 1, "seat"), Custom, KINDS, ["a"], ["a", thing, None], None, None)
        self.refuses((BadCustom, 2, "seat"), Custom, KINDS, ["a"], ["a", "b", "a"], None, None)

    def test_clocks(self):
        for thing in (*NO_SEQUENCES, [("a", 1, True)] * 3, [None] * 3):
            self.refuses((BadCustom, 0, "clocks"), Custom, KINDS, ["a"], ["a"], thing, None)
        for thing in (*NO_SEQUENCES, (), ("b", 1), ("b", 1, True, True), ("a", 0, 0)):
            self.refuses((BadCustom, 1, "clock"), Custom, KINDS, ["a"], ["a"], [("a", 1, True), thing], None)
        for thing in (*NO_LABELS, "a"):
            self.refuses((BadCustom, 1, "clock"), Custom, KINDS, ["a"], ["a"], [("a", 1, True), (thing, 0, 0)], None)
        for thing in (*NO_WHOLES, 0, -1, 41):
            self.refuses((BadCustom, 0, "cap"), Custom, KINDS, ["a"], ["a"], [("a", thing, 0), None], None)
        for thing in (None, 0, 1, "runs", []):
            self.refuses((BadCustom, 0, "running"), Custom, KINDS, ["a"], ["a"], [("a", 1, thing), None], None)

    def test_clauses(self):
        some = [Clause("open")] * 12
        self.assertEqual(len(simple(*some)), 12)
        for thing in (*NO_SEQUENCES, [*some, Clause("open")], [None] * 13):
            self.refuses((BadCustom, 0, "clauses"), Custom, KINDS, ["a"], ["a"], [], thing)
        for thing in (None, "open: nothing", ("open", (), ()), Clause):
            self.refuses((BadCustom, 1, "clause"), simple, Clause("open"), thing, None)
        self.refuses((BadCustom, 1, "kind"), simple, Clause("open"), Clause("shut", [Apart()]), None)
        for held in (Clause("open", [Is("owner", "first")]), Clause("takes", [Apart()]), Clause("takes", [SamePerson()]),
                     Clause("takes", (), [Put("owner", "second")]), Clause("year", [IsNot("none", "first")]),
                     Clause("year", [Apart()]), Clause("year", (), [Put("owner", "first")])):
            self.refuses((BadCustom, 1, "arity"), simple, Clause("open"), held, None)
        for held in (Clause("sells", [Is("owner", "first")]), Clause("sells"), Clause("takes", [InRoom("calm")])):
            self.assertEqual(simple(held).clauses, (held,))

    def test_unknown(self):
        for piece in (InRoom("shut"), NotInRoom("owner"), Is("agent", "owner"), IsNot("owner", "agent"),
                      Is("calm", "owner"), Is("owner", "idle"), AtLeast("none", 40), Below("owner", 1),
                      AtLeast("calm", 1)):
            held = Clause("sells", [AtLeast("idle", 4), piece])
            self.refuses((BadCustom, 1, "unknown"), simple, Clause("open"), held, None)
        for piece in (ToRoom("shut"), Put("agent", "first"), Put("owner", "agent"), Zero("none"), Run("owner"),
                      Halt("calm"), Put("owner", "calm")):
            done = Clause("sells", [AtLeast("idle", 4)], [ToRoom("calm"), piece] if piece != ToRoom("shut") else [piece])
            self.refuses((BadCustom, 1, "unknown"), simple, Clause("open"), done, None)

    def test_number(self):
        for piece in (AtLeast("idle", 4), Below("idle", 4), AtLeast("age", 6), Below("age", 40)):
            self.refuses((BadCustom, 2, "number"), simple, Clause("open"), Clause("open"), Clause("year", [piece]), None)
        self.assertEqual(len(simple(Clause("year", [AtLeast("idle", 3), Below("age", 5)]))), 1)

    def test_the_first_word_comes_first(self):
        self.refuses((BadCustom, 1, "kind"), simple, Clause("open"), Clause("shut", [Apart()]))
        self.refuses((BadCustom, 0, "arity"), simple, Clause("open", [Apart(), InRoom("shut")]))
        self.refuses((BadCustom, 0, "cap"), simple, clocks=[("a", 41, 1), ("a", 1, True)])

    def test_rooms_seats_and_clocks_may_share_names(self):
        custom = Custom(KINDS, ["a", "first", "year"], ["a", "year"], [("a", 1, True), ("first", 40, False)], [
            Clause("takes", [InRoom("a"), Is("a", "first"), AtLeast("a", 1)], [ToRoom("first"), Put("a", "year"),
                                                                              Zero("first")])])
        stand = Stand("a", ["x", "y"], [(1, False), (7, True)])
        self.assertEqual(custom.after(stand, ("takes", "x")), Stand("first", ["y", "y"], [(1, False), (0, True)]))

    def test_most_stands(self):
        self.assertEqual(wide_custom().most_stands, 3 * 15 * 8 * 12)
        for rooms in (1, 2, 3):
            for seats, rows in ((1, 2), (2, 5), (3, 15)):
                for clocks, faces in (([], 1), ([("a", 1, True)], 4), ([("a", 40, True), ("b", 3, False)], 82 * 8)):
                    custom = simple(rooms=["a", "b", "c"][:rooms], seats=["a", "b", "c"][:seats], clocks=clocks)
                    self.assertEqual(custom.most_stands, rooms * rows * faces)

    def test_with_clauses(self):
        custom = simple(Clause("open"))
        self.assertEqual(custom.with_clauses([Clause("takes")]), simple(Clause("takes")))
        self.assertEqual(custom.with_clauses(()), simple())
        self.assertEqual(custom, simple(Clause("open")))
        self.refuses((BadCustom, 0, "clauses"), custom.with_clauses, None)
        self.refuses((BadCustom, 1, "kind"), custom.with_clauses, [Clause("open"), Clause("shut")])
        self.keeps_nothing(custom.with_clauses, [Clause("open"), Clause("takes")])

    def test_split(self):
        rows = [Clause("open"), Clause("takes", [Is("owner", "first")], [Zero("idle")]), Clause("year")]
        custom = simple(*rows)
        self.assertEqual(custom.split(1, InRoom("calm")), simple(
            rows[0], Clause("takes", [Is("owner", "first"), InRoom("calm")], [Zero("idle")]),
            Clause("takes", [Is("owner", "first"), NotInRoom("calm")], [Zero("idle")]), rows[2]))
        self.assertEqual(len(custom.split(0, Below("age", 5))), 4)
        self.assertEqual(custom.split(2, InRoom("suit")).clauses[3], Clause("year", [NotInRoom("suit")]))

    def test_split_refuses(self):
        custom = simple(Clause("open"), Clause("takes", [Is("owner", "first")]))
        for thing in (*NO_WHOLES, -1, 2):
            self.refuses((NoClause, thing), custom.split, thing, None)
        self.refuses((NoClause, 0), simple().split, 0, InRoom("calm"))
        self.refuses((BadClause, 1, "condition"), custom.split, 1, None)
        self.refuses((BadClause, 1, "double"), custom.split, 1, IsNot("owner", "first"))
        self.refuses((BadCustom, 0, "arity"), custom.split, 0, Apart())
        self.refuses((BadCustom, 1, "unknown"), custom.split, 1, InRoom("shut"))
        self.refuses((BadCustom, 0, "clauses"), simple(*[Clause("open")] * 12).split, 0, InRoom("shut"))

    def test_equal_by_all_five(self):
        def make():
            return simple(Clause("open"), Clause("takes"))
        self.same_only(make, [
            Custom(Kinds([("open", 0), ("takes", 1)]), ("calm", "suit"), ("owner", "heir"), CLOCKS, make().clauses),
            simple(Clause("open"), Clause("takes"), rooms=("suit", "calm")),
            simple(Clause("open"), Clause("takes"), seats=("heir", "owner")),
            simple(Clause("open"), Clause("takes"), clocks=CLOCKS[::-1]),
            simple(Clause("open"), Clause("takes"), clocks=[("idle", 3, False), ("age", 5, False)]),
            simple(Clause("takes"), Clause("open")), simple(Clause("open"))])
        self.assertTrue(wide_custom() == wide_custom())

    def test_keeps_nothing(self):
        self.keeps_nothing(lambda *args: Custom(KINDS, *args), ["a", "b"], ["a", "b"], [["a", 1, True]],
                           [Clause("open", [InRoom("b")]), Clause("year")])


class StepTest(Case):
    def test_stand_fault(self):
        custom = wide_custom()
        for thing in (None, "calm", custom.start.code, Stand):
            self.assertEqual(custom.stand_fault(thing), "stand")
        self.assertIsNone(custom.stand_fault(custom.start))
        self.assertIsNone(custom.stand_fault(Stand("shut", ["x", "y", "z"], [(3, False), (5, True)])))
        self.assertEqual(custom.stand_fault(Stand("owner", ["x"])), "room")
        for seats in (["x"], ["x", "y"]):
            self.assertEqual(custom.stand_fault(Stand("calm", seats)), "seats")
        for clocks in ([], [(0, True)]):
            self.assertEqual(custom.stand_fault(Stand("calm", [None] * 3, clocks)), "clocks")
        self.assertEqual(custom.stand_fault(Stand("calm", [None] * 3, [(4, True), (5, True)])), "number")
        self.assertEqual(custom.stand_fault(Stand("calm", [None] * 3, [(3, True), (6, False)])), "number")
        self.assertEqual(simple(clocks=[]).stand_fault(Stand("calm", [None] * 2, [(0, True)])), "clocks")

    def test_refusals(self):
        custom = wide_custom()
        wrong = [(None, "stand"), (Stand("free", ["x"]), "room"), (Stand("calm", ["x"]), "seats"),
                 (Stand("calm", [None] * 3), "clocks"), (Stand("calm", [None] * 3, [(4, True), (0, True)]), "number")]
        for stand, word in wrong:
            for call in (custom.ticked, custom.acting_at_end, custom.after_year):
                self.refuses((BadStand, word), call, stand)
            for call in (custom.acting, custom.after):
                self.refuses((BadStand, word), call, stand, None)
        for deed, word in ((None, "deed"), ((), "deed"), (("shut",), "kind"), (("year",), "kind"),
                           (("open", "x"), "arity"), (("takes", "X"), "person")):
            for call in (custom.acting, custom.after):
                self.refuses((BadDeed, word), call, custom.start, deed)

    def test_exchange_of_two_seats(self):
        custom = simple(Clause("open", (), [Put("owner", "heir"), Put("heir", "owner")]))
        stand = Stand("calm", ["x", "y"], [(0, True), (0, False)])
        self.assertEqual(custom.after(stand, ("open",)).seats, ("y", "x"))
        self.assertEqual(stand.seats, ("x", "y"))

    def test_void_and_idle(self):
        custom = simple(Clause("open", [InRoom("suit")], [ToRoom("calm")]), Clause("takes"))
        self.assertIsNone(custom.acting(custom.start, ["open"]))
        self.assertEqual(custom.after(custom.start, ["open"]), custom.start)
        self.assertIsNot(custom.after(custom.start, ["open"]), custom.start)
        self.assertEqual(custom.acting(custom.start, ("takes", "x")), 1)
        self.assertEqual(custom.after(custom.start, ("takes", "x")), custom.start)
        self.assertIsNone(custom.acting(custom.start, ("sells", "x", "y")))

    def test_the_first_that_fits(self):
        custom = simple(Clause("takes", [Is("owner", "first")], [ToRoom("suit")]), Clause("open"),
                        Clause("takes", [], [Put("owner", "first")]), Clause("takes", [], [Put("heir", "first")]))
        stand = custom.after(custom.start, ("takes", "x"))
        self.assertEqual((custom.acting(custom.start, ("takes", "x")), stand.seats), (2, ("x", None)))
        self.assertEqual((custom.acting(stand, ("takes", "x")), custom.after(stand, ("takes", "x")).room), (0, "suit"))

    def test_ticked(self):
        custom = simple(Clause("year", [AtLeast("idle", 2)], [Zero("idle"), Run("age")]))
        stand = Stand("suit", ["x", None], [(0, True), (4, False)])
        shown = []
        for _ in range(5):
            stand = custom.ticked(stand)
            shown.append(stand.clocks[0])
        self.assertEqual(shown, [(1, True), (2, True), (3, True), (3, True), (3, True)])
        self.assertEqual(stand, Stand("suit", ["x", None], [(3, True), (4, False)]))
        self.assertEqual(custom.ticked(Stand("suit", ["x", None], [(3, False), (5, True)])).clocks,
                         ((3, False), (5, True)))

    def test_the_years_end_asks_the_ticked_stand(self):
        custom = simple(Clause("year", [AtLeast("idle", 2)], [Zero("idle"), Run("age")]))
        ahead = Stand("calm", [None, None], [(0, True), (4, False)])
        self.assertIsNone(custom.acting_at_end(ahead))
        self.assertEqual(custom.after_year(ahead).clocks, ((1, True), (4, False)))
        ahead = Stand("calm", [None, None], [(1, True), (4, False)])
        self.assertEqual(custom.acting_at_end(ahead), 0)
        self.assertEqual(custom.after_year(ahead).clocks, ((0, True), (4, True)))
        halted = Stand("calm", [None, None], [(1, False), (4, True)])
        self.assertIsNone(custom.acting_at_end(halted))
        self.assertEqual(custom.after_year(halted).clocks, ((1, False), (5, True)))

    def test_clauses_of_the_year_are_asked_once(self):
        custom = simple(Clause("year", [InRoom("calm")], [ToRoom("suit")]), Clause("year", [], [ToRoom("calm")]))
        self.assertEqual(custom.after_year(custom.start).room, "suit")
        self.assertEqual(custom.after_year(custom.after_year(custom.start)).room, "calm")

    def test_zero_run_and_halt(self):
        for change, told in ((Zero("idle"), (0, True)), (Run("idle"), (2, True)), (Halt("idle"), (2, False))):
            custom = simple(Clause("open", (), [change]))
            self.assertEqual(custom.after(Stand("calm", [None] * 2, [(2, True), (1, True)]), ("open",)).clocks,
                             (told, (1, True)))
        for change, told in ((Zero("idle"), (0, False)), (Run("idle"), (2, True)), (Halt("idle"), (2, False))):
            custom = simple(Clause("open", (), [change]))
            self.assertEqual(custom.after(Stand("calm", [None] * 2, [(2, False), (1, True)]), ("open",)).clocks,
                             (told, (1, True)))

    def test_every_condition_against_its_opposite(self):
        deed = ("sells", "x", "y")
        pieces = [InRoom("calm"), Is("owner", "first"), Is("owner", "second"), Is("owner", "nobody"), Is("owner", "heir"),
                  SamePerson(), AtLeast("idle", 1), AtLeast("idle", 3), AtLeast("age", 5)]
        for piece in pieces:
            custom, other = simple(Clause("sells", [piece])), simple(Clause("sells", [piece.opposite()]))
            for seed in range(60):
                stand = random_stand(seed, custom, "xyz")
                for deed in (("sells", "x", "y"), ("sells", "y", "y")):
                    self.assertNotEqual(custom.acting(stand, deed), other.acting(stand, deed))
                    self.assertEqual(custom.acting(stand, deed), told_acting(custom, stand, deed))

    def test_nobody_is_nobody(self):
        custom = simple(Clause("open", [Is("owner", "heir")], [ToRoom("suit")]))
        self.assertEqual(custom.acting(custom.start, ("open",)), 0)
        self.assertIsNone(custom.acting(Stand("calm", [None, "x"], [(0, True), (0, True)]), ("open",)))

    def test_against_a_plain_walk(self):
        for seed in range(120):
            custom = random_custom(seed)
            for at in range(12):
                stand = random_stand(seed * 100 + at, custom, "abc")
                self.assertEqual(custom.ticked(stand), told_ticked(custom, stand))
                ticked = told_ticked(custom, stand)
                self.assertEqual(custom.acting_at_end(stand), told_acting(custom, ticked, None))
                self.assertEqual(custom.after_year(stand), told_after(custom, ticked, None))
                for deed in all_deeds(custom.kinds, "ad"):
                    self.assertEqual(custom.acting(stand, deed), told_acting(custom, stand, deed))
                    self.assertEqual(custom.after(stand, deed), told_after(custom, stand, deed))

    def test_all_stands_of_a_wide_custom(self):
        custom = wide_custom()
        for stand in every_stand(custom, "a")[::7]:
            self.assertIsNone(custom.stand_fault(stand))
            self.assertEqual(custom.after(stand, ("sells", "a", "b")), told_after(custom, stand, ("sells", "a", "b")))
            self.assertEqual(custom.after_year(stand), told_after(custom, told_ticked(custom, stand), None))

    def test_nothing_is_changed(self):
        custom, stand, deed = wide_custom(), wide_custom().start, ["takes", "x"]
        code = stand.code
        custom.after(stand, deed)
        custom.after_year(stand)
        custom.ticked(stand)
        self.assertEqual((stand.code, deed, custom), (code, ["takes", "x"], wide_custom()))
        behind = custom.after(stand, deed)
        deed.clear()
        self.assertEqual(behind.seats, ("x", None, None))


if __name__ == "__main__":
    unittest.main()
