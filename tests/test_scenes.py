import random
import unittest

from searchback.clauses import (
    Apart, AtLeast, Below, Clause, Halt, InRoom, Is, IsNot, NotInRoom, Put, Run, SamePerson, ToRoom, Zero,
)
from searchback.customs import Custom
from searchback.errors import BadShape, NoClause
from searchback.kinds import Kinds
from searchback.scenes import Scene, acting_scene, differing_scene, fitting_scene, never_acting
from searchback.stand import Stand
from tests.helpers import (
    NO_WHOLES, Case, all_deeds, every_stand, plain_custom, random_clause, random_custom, told_acting, told_after,
    told_holds, wide_custom,
)

KINDS = Kinds([("open", 0), ("takes", 1), ("sells", 2)])


def custom_of(*clauses, rooms=("calm", "suit"), seats=("owner", "heir"), clocks=(("idle", 3, True),)):
    return Custom(KINDS, rooms, seats, clocks, clauses)


def all_scenes(custom):
    """All pairs of a stand and a deed, or None at a ticked stand, by a few persons."""
    stands = every_stand(custom, "abc"[:len(custom.seats)])
    deeds = all_deeds(custom.kinds, "abcde"[:len(custom.seats) + 2])
    for stand in stands:
        for deed in deeds:
            yield stand, deed
        if all(number >= 1 for number, running in stand.clocks if running):
            yield stand, None


def small_custom(seed):
    """A custom of which all scenes can be gone through."""
    rnd = random.Random(seed)
    kinds = Kinds([("x", rnd.randint(0, 1)), ("y", 2)][:rnd.randint(1, 2)])
    rooms, seats = ("r", "s")[:rnd.randint(1, 2)], ("p", "q")[:rnd.randint(1, 2)]
    clocks = [(name, rnd.randint(1, 2), True) for name in ("k", "l")[:rnd.randint(0, 2)]]
    rows = [*kinds.rows, ("year", 0), ("year", 0)]
    clauses = [random_clause(rnd, *rnd.choice(rows), rooms, seats, clocks) for _ in range(rnd.randint(1, 7))]
    return Custom(kinds, rooms, seats, clocks, clauses)


def changed_custom(seed, custom):
    """The custom with something done to its clauses, often nothing that can be seen."""
    rnd = random.Random(seed)
    clauses = list(custom.clauses)
    at = rnd.randrange(len(clauses))
    sort = rnd.randrange(5)
    if sort == 0:
        clauses.append(clauses[at])
    elif sort == 1:
        clauses.pop(at)
    elif sort == 2:
        rnd.shuffle(clauses)
    elif sort == 3:
        held = clauses[at].conditions
        clauses[at] = Clause(clauses[at].kind, held[1:], clauses[at].changes)
    else:
        clauses[at] = Clause(clauses[at].kind, clauses[at].conditions, clauses[at].changes[1:])
    return custom.with_clauses(clauses)


class SceneTest(Case):
    def is_scene(self, custom, scene, kind):
        self.assertIs(type(scene), Scene)
        self.assertIsNone(custom.stand_fault(scene.stand))
        if kind == "year":
            self.assertIsNone(scene.deed)
            for number, running in scene.stand.clocks:
                self.assertTrue(number >= 1 or not running)
        else:
            self.assertIsNone(custom.kinds.fault(scene.deed))
            self.assertIs(type(scene.deed), tuple)
            self.assertEqual(scene.deed[0], kind)

    def holds_all(self, custom, scene, index):
        held = custom.clauses[index].conditions
        return all(told_holds(custom, scene.stand, scene.deed, condition) for condition in held)

    def test_scenes_are_equal_by_attributes(self):
        stand = Stand("calm", ["x"])
        self.same_only(lambda: Scene(stand, ("open",)), [
            Scene(stand, None), Scene(Stand("calm", ["y"]), ("open",)), Scene(stand, ("takes", "x")), (stand, ("open",))])
        self.same_only(lambda: Scene(stand, None), [Scene(stand, ())])
        scene = Scene(stand, "anything")
        self.assertEqual((scene.stand, scene.deed), (stand, "anything"))

    def test_no_clause(self):
        for thing in (*NO_WHOLES, -1, 3):
            self.refuses((NoClause, thing), fitting_scene, plain_custom(), thing)
            self.refuses((NoClause, thing), acting_scene, plain_custom(), thing)
        self.refuses((NoClause, 0), fitting_scene, custom_of(), 0)
        self.assertEqual(never_acting(custom_of()), ())

    def test_each_kind_of_condition(self):
        for piece in (InRoom("suit"), NotInRoom("calm"), Is("owner", "heir"), Is("owner", "nobody"), Is("owner", "first"),
                      Is("heir", "second"), IsNot("owner", "heir"), IsNot("owner", "nobody"), IsNot("owner", "first"),
                      SamePerson(), Apart(), AtLeast("idle", 3), Below("idle", 1)):
            custom = custom_of(Clause("sells", [piece]))
            for call in (fitting_scene, acting_scene):
                scene = call(custom, 0)
                self.is_scene(custom, scene, "sells")
                self.assertEqual(custom.acting(scene.stand, scene.deed), 0)

    def test_conditions_that_exclude_each_other(self):
        for pieces in ([InRoom("calm"), InRoom("suit")], [NotInRoom("calm"), NotInRoom("suit")],
                       [Is("owner", "first"), Is("owner", "second"), Apart()], [AtLeast("idle", 2), Below("idle", 2)],
                       [Is("owner", "first"), Is("owner", "nobody")], [SamePerson(), Is("owner", "first"),
                                                                       IsNot("owner", "second")],
                       [Is("owner", "heir"), Is("owner", "first"), IsNot("heir", "first")]):
            custom = custom_of(Clause("sells", pieces), Clause("sells"))
            self.assertIsNone(fitting_scene(custom, 0))
            self.assertIsNone(acting_scene(custom, 0))
            self.assertEqual(never_acting(custom), (0,))

    def test_two_strangers(self):
        pieces = [IsNot("owner", "nobody"), IsNot("heir", "nobody"), IsNot("owner", "heir"), Apart()]
        both = [IsNot("owner", "first"), IsNot("owner", "second")]
        custom = custom_of(Clause("sells", [*pieces, *both]), Clause("sells", [*both, IsNot("heir", "first"),
                                                                               IsNot("heir", "second"), Apart()]))
        for index in (0, 1):
            scene = fitting_scene(custom, index)
            self.assertTrue(self.holds_all(custom, scene, index))

    def test_clauses_that_are_forestalled(self):
        below, above = Clause("open", [Below("idle", 2)]), Clause("open", [AtLeast("idle", 2)])
        self.assertEqual(never_acting(custom_of(below, above, Clause("open"))), (2,))
        self.assertEqual(never_acting(custom_of(below, Clause("open"), above)), (2,))
        self.assertEqual(never_acting(custom_of(Clause("open"), below, Clause("takes"), above)), (1, 3))
        rooms = [Clause("open", [InRoom("calm")]), Clause("open", [InRoom("suit")])]
        self.assertEqual(never_acting(custom_of(*rooms, below)), (2,))
        self.assertEqual(never_acting(custom_of(*rooms, Clause("takes", [InRoom("suit")]))), ())

    def test_a_number_between_the_others(self):
        rows = [Clause("open", [Below("idle", 17)]), Clause("open", [AtLeast("idle", 18)]), Clause("open")]
        custom = custom_of(*rows, clocks=[("idle", 40, True)])
        self.assertEqual(acting_scene(custom, 2).stand.clocks[0][0], 17)
        rows[2:] = [Clause("open", [AtLeast("idle", 17), Below("idle", 18)]), Clause("open")]
        self.assertEqual(never_acting(custom.with_clauses(rows)), (3,))

    def test_two_clocks_that_leave_one_corner(self):
        clocks = [("k", 40, True), ("l", 40, False)]
        rows = [Clause("open", [Below("k", 30)]), Clause("open", [AtLeast("k", 31)]), Clause("open", [AtLeast("l", 8)]),
                Clause("open", [Below("l", 7)]), Clause("open", [AtLeast("k", 3)])]
        custom = custom_of(*rows, clocks=clocks)
        self.assertEqual([clock[0] for clock in acting_scene(custom, 4).stand.clocks], [30, 7])
        inner = Clause("open", [AtLeast("k", 30), Below("k", 31), AtLeast("l", 7), Below("l", 8)])
        self.assertEqual(never_acting(custom.with_clauses([*rows[:4], inner, rows[4]])), (5,))

    def test_at_a_years_end(self):
        clocks = [("k", 1, True), ("l", 2, True)]
        custom = custom_of(Clause("year", [Below("k", 1), Below("l", 1)]), Clause("year", [AtLeast("k", 1)]),
                           Clause("year"), clocks=clocks)
        for index in range(3):
            scene = acting_scene(custom, index)
            self.is_scene(custom, scene, "year")
            self.assertEqual(told_acting(custom, scene.stand, None), index)

    def test_against_all_scenes(self):
        for seed in range(70):
            custom = small_custom(seed)
            fitting, acting = {}, {}
            for stand, deed in all_scenes(custom):
                kind = "year" if deed is None else deed[0]
                for index, clause in enumerate(custom.clauses):
                    if clause.kind == kind and index not in fitting:
                        if all(told_holds(custom, stand, deed, held) for held in clause.conditions):
                            fitting[index] = True
                acting[told_acting(custom, stand, deed)] = True
            for index, clause in enumerate(custom.clauses):
                scene = fitting_scene(custom, index)
                self.assertEqual(scene is not None, index in fitting, (seed, index))
                if scene is not None:
                    self.is_scene(custom, scene, clause.kind)
                    self.assertTrue(self.holds_all(custom, scene, index))
                scene = acting_scene(custom, index)
                self.assertEqual(scene is not None, index in acting, (seed, index))
                if scene is not None:
                    self.is_scene(custom, scene, clause.kind)
                    self.assertEqual(told_acting(custom, scene.stand, scene.deed), index)
            told = tuple([index for index in range(len(custom)) if index not in acting])
            self.assertEqual(never_acting(custom), told)
            self.is_tuple_throughout(never_acting(custom))

    def test_wide_customs(self):
        for seed in range(80):
            custom = random_custom(seed + 1000, most=12, cap=40)
            for index, clause in enumerate(custom.clauses):
                for call in (fitting_scene, acting_scene):
                    scene = call(custom, index)
                    if scene is not None:
                        self.is_scene(custom, scene, clause.kind)
                        self.assertTrue(self.holds_all(custom, scene, index))
                        if call is acting_scene:
                            self.assertEqual(told_acting(custom, scene.stand, scene.deed), index)

    def test_many_numbers_are_not_gone_through(self):
        rnd = random.Random(3)
        clocks = [("k", 40, True), ("l", 40, True)]

        def clause(at):
            low, high = sorted(rnd.sample(range(1, 41), 2))
            least, most = sorted(rnd.sample(range(1, 41), 2))
            held = [AtLeast("k", low), Below("k", high), AtLeast("l", least), Below("l", most),
                    rnd.choice((Is, IsNot))("a", "first"), rnd.choice((Is, IsNot))("b", rnd.choice(("second", "c")))]
            return Clause("sells", held, [Put("c", "second"), rnd.choice((Zero("k"), Run("l"), ToRoom("calm")))])

        one = Custom(KINDS, ["calm", "suit", "shut"], ["a", "b", "c"], clocks, [clause(at) for at in range(12)])
        other = one.with_clauses(list(one.clauses)[::-1])
        for index in never_acting(one):
            self.assertIsNone(acting_scene(one, index))
        self.assertIsNone(differing_scene(one, one))
        scene = differing_scene(one, other)
        if scene is not None:
            self.assertNotEqual(told_after(one, scene.stand, scene.deed), told_after(other, scene.stand, scene.deed))


class DifferingTest(Case):
    def parts(self, one, other, kind=None):
        """Check that a scene is told in which the customs part."""
        scene = differing_scene(one, other)
        self.assertIs(type(scene), Scene)
        self.assertIsNone(one.stand_fault(scene.stand))
        if scene.deed is None:
            for number, running in scene.stand.clocks:
                self.assertTrue(number >= 1 or not running)
        else:
            self.assertIsNone(one.kinds.fault(scene.deed))
        self.assertNotEqual(told_after(one, scene.stand, scene.deed), told_after(other, scene.stand, scene.deed))
        if kind is not None:
            self.assertEqual("year" if scene.deed is None else scene.deed[0], kind)

    def test_shapes(self):
        one = custom_of()
        others = {
            "kinds": Custom(Kinds([("open", 0)]), ["a"], ["a"], [], []),
            "rooms": custom_of(rooms=("suit", "calm"), seats=("a",), clocks=()),
            "seats": custom_of(seats=("heir", "owner"), clocks=()),
            "clocks": custom_of(clocks=(("idle", 4, True),)),
        }
        for word, other in others.items():
            self.refuses((BadShape, word), differing_scene, one, other)
            self.refuses((BadShape, word), differing_scene, other, one)
        for clocks in ((), (("age", 3, True),), (("idle", 3, True), ("age", 3, True))):
            self.refuses((BadShape, "clocks"), differing_scene, one, custom_of(clocks=clocks))
        self.assertIsNone(differing_scene(one, custom_of(clocks=(("idle", 3, False),))))

    def test_nothing_parts(self):
        rows = [Clause("open", [InRoom("calm")], [ToRoom("suit")]), Clause("open", [NotInRoom("calm")], [ToRoom("calm")])]
        one = custom_of(*rows)
        for clauses in (rows[::-1], [rows[0], Clause("open", (), [ToRoom("calm")])], [*rows, Clause("open")],
                        [Clause("takes"), *rows], [rows[0].split(AtLeast("idle", 2))[0], *rows]):
            self.assertIsNone(differing_scene(one, custom_of(*clauses)))
            self.assertIsNone(differing_scene(custom_of(*clauses), one))
        none = custom_of()
        for clause in (Clause("takes", [Is("owner", "first")], [Put("owner", "first")]),
                       Clause("open", [InRoom("suit")], [ToRoom("suit")]), Clause("open", [Below("idle", 1)], [Zero("idle")]),
                       Clause("year", [Is("owner", "heir")], [Put("owner", "heir"), Put("heir", "owner")])):
            self.assertIsNone(differing_scene(none, custom_of(clause)))

    def test_what_parts(self):
        none = custom_of()
        for change, kind in ((ToRoom("calm"), "open"), (ToRoom("suit"), "year"), (Put("owner", "nobody"), "open"),
                             (Put("owner", "heir"), "year"), (Zero("idle"), "open"), (Zero("idle"), "year"),
                             (Run("idle"), "open"), (Halt("idle"), "year"), (Run("idle"), "year"), (Halt("idle"), "open"),
                             (Put("owner", "first"), "takes"), (Put("owner", "second"), "sells")):
            self.parts(none, custom_of(Clause(kind, (), [change])), kind)
            self.parts(custom_of(Clause(kind, (), [change])), none, kind)
        self.parts(custom_of(Clause("open", (), [Run("idle")])), custom_of(Clause("open", (), [Halt("idle")])))
        held = [Below("idle", 1)]
        self.parts(none, custom_of(Clause("open", held, [Halt("idle")])))
        # At a year's end a clock below 1 does not run, so it can be made to run, but not be halted.
        self.assertIsNone(differing_scene(none, custom_of(Clause("year", held, [Halt("idle")]))))
        self.parts(none, custom_of(Clause("year", held, [Run("idle")])))
        self.parts(custom_of(Clause("year", held, [Run("idle")])), custom_of(Clause("year", held, [Halt("idle")])))
        self.assertIsNone(differing_scene(none, custom_of(Clause("year", held, [Zero("idle")]))))
        self.parts(none, custom_of(Clause("year", [AtLeast("idle", 1)], [Zero("idle")])))

    def test_zero_at_one_clock_and_running_at_the_other(self):
        clocks = (("k", 2, True), ("l", 2, True))
        one = custom_of(Clause("year", [Below("k", 1)], [Zero("k"), Halt("l")]), clocks=clocks)
        other = custom_of(Clause("year", [Below("k", 1)], [Zero("l")]), clocks=clocks)
        self.parts(one, other)
        one = custom_of(Clause("year", [Below("k", 1), Below("l", 1)], [Zero("k"), Halt("l")]), clocks=clocks)
        self.assertIsNone(differing_scene(one, custom_of(clocks=clocks)))

    def test_against_all_scenes(self):
        parted = 0
        for seed in range(150):
            one = small_custom(seed)
            other = changed_custom(seed, one)
            scenes = all_scenes(one)
            told = any(told_after(one, stand, deed) != told_after(other, stand, deed) for stand, deed in scenes)
            parted += told
            if told:
                self.parts(one, other)
                self.parts(other, one)
            else:
                self.assertIsNone(differing_scene(one, other), seed)
                self.assertIsNone(differing_scene(other, one), seed)
        self.assertTrue(40 < parted < 140, parted)

    def test_wide_customs(self):
        self.assertIsNone(differing_scene(wide_custom(), wide_custom()))
        for seed in range(60):
            one = random_custom(seed + 2000, most=12, cap=40)
            self.assertIsNone(differing_scene(one, one))
            if len(one) > 0:
                other = changed_custom(seed, one.with_clauses(one.clauses[:11]))
                if differing_scene(one, other) is not None:
                    self.parts(one, other)


if __name__ == "__main__":
    unittest.main()
