import itertools
import unittest

from searchback.clauses import AtLeast, Clause, Is, Put, Zero
from searchback.errors import BadPerson, BadRound, BadStand, TooMany
from searchback.kinds import Kinds
from searchback.patterns import deeds_over
from searchback.rounds import ends_of_rounds, marked_stand, marked_stands, others_deeds, own_deeds
from searchback.stand import Stand
from tests.helpers import (
    NO_LABELS, NO_SEQUENCES, Case, Odd, all_deeds, clocked_custom, every_stand, plain_custom, random_custom, random_stand,
    searched_customs, told_after, told_end, told_persons,
)


def told_marked(stand, person):
    labels = [label for label in "abcd" if label != person]
    names = {person: person}
    for other in told_persons(stand):
        if other not in names:
            names[other] = labels.pop(0)
    return stand.renamed(names)


class MarkedTest(Case):
    def test_written_stands(self):
        stand = Stand("r", ["zed", None, "ann"], [(2, True)])
        self.assertEqual(marked_stand(stand, "ann"), Stand("r", ["a", None, "ann"], [(2, True)]))
        self.assertEqual(marked_stand(stand, "a"), Stand("r", ["b", None, "c"], [(2, True)]))
        self.assertEqual(marked_stand(Stand("r", ["b", "a", "b"]), "b"), Stand("r", ["b", "a", "b"]))
        self.assertEqual(marked_stand(Stand("r", ["b", "a", "c"]), "a"), Stand("r", ["b", "a", "c"]))
        self.assertEqual(marked_stand(Stand("r", ["c", "d"]), "b"), Stand("r", ["a", "c"]))
        self.assertEqual(marked_stand(Stand("r", [None]), "far"), Stand("r", [None]))

    def test_drawn_stands(self):
        for seed in range(200):
            custom = random_custom(seed)
            stand = random_stand(seed, custom)
            for person in ("a", "b", "zed"):
                self.assertEqual(marked_stand(stand, person), told_marked(stand, person))

    def test_all_marked_stands(self):
        for seed, custom in searched_customs(30):
            for person in ("b", "zed"):
                found = marked_stands(custom, person)
                self.assertIs(type(found), tuple)
                codes = {told_marked(stand, person).code for stand in every_stand(custom, (person, "u", "v", "w"))}
                self.assertEqual({stand.code for stand in found}, codes)
                self.assertEqual(len(found), len(codes))
                rooms = {room: place for place, room in enumerate(custom.rooms)}
                self.assertEqual(list(found), sorted(found, key=lambda stand: (rooms[stand.room], [
                    (seat is not None, seat != person, seat or "") for seat in stand.seats], stand.clocks)))

    def test_a_written_order(self):
        custom = clocked_custom(2, 2, 1)
        rows = [(None, None), (None, "b"), (None, "a"), ("b", None), ("b", "b"), ("b", "a"), ("a", None), ("a", "b"),
                ("a", "a"), ("a", "c")]
        clocks = [(0, False), (0, True), (1, False), (1, True)]
        self.assertEqual(marked_stands(custom, "b"), tuple(
            Stand(room, row, [clock]) for room in ("r", "s") for row in rows for clock in clocks))

    def test_refused(self):
        for thing in (None, ("r", (None,), ()), Odd()):
            self.refuses((BadStand, "stand"), marked_stand, thing, None)
        for person in NO_LABELS:
            self.refuses((BadPerson, person), marked_stand, Stand("r", [None]), person)
            self.refuses((BadPerson, person), marked_stands, clocked_custom(1, 2, 40), person)
        self.refuses((TooMany, 410), marked_stands, clocked_custom(1, 2, 40), "a")
        self.assertEqual(len(marked_stands(clocked_custom(1, 2, 39), "a")), 800)


class DeedsTest(Case):
    def test_written_deeds(self):
        custom = clocked_custom(1, 2, kinds=[("x", 1), ("y", 0), ("z", 2)])
        stand = Stand("r", ["b", "ann"])
        self.assertEqual(others_deeds(custom, stand, "ann"), (
            ("x", "b"), ("x", "a"), ("y",), ("z", "b", "ann"), ("z", "b", "b"), ("z", "b", "a"),
            ("z", "a", "ann"), ("z", "a", "b"), ("z", "a", "a"), ("z", "a", "c")))
        self.assertEqual(own_deeds(custom, stand, "ann"), (("x", "ann"), ("z", "ann", "ann"), ("z", "ann", "b"), ("z", "ann", "a")))
        self.assertEqual(own_deeds(custom, Stand("r", [None, None]), "b"), (("x", "b"), ("z", "b", "b"), ("z", "b", "a")))
        self.assertEqual(own_deeds(clocked_custom(1, 1, kinds=[("y", 0)]), Stand("r", [None]), "b"), ())
        self.is_tuple_throughout(others_deeds(custom, stand, "ann"))

    def test_against_all_deeds(self):
        for seed in range(120):
            custom = random_custom(seed)
            stand = random_stand(seed, custom)
            for person in ("a", "zed"):
                persons = (person, *[other for other in told_persons(stand) if other != person])
                deeds = list(deeds_over(custom.kinds, persons))
                others, own = others_deeds(custom, stand, person), own_deeds(custom, stand, person)
                self.assertEqual([deed for deed in deeds if len(deed) > 1 and deed[1] == person], list(own))
                self.assertEqual([deed for deed in deeds if len(deed) == 1 or deed[1] != person], list(others))
                # They lead to all marked stands to which any deeds lead.
                names = (*persons, "m", "n", "o")
                for is_own, row in ((True, own), (False, others)):
                    told = {told_marked(told_after(custom, stand, deed), person).code
                            for deed in all_deeds(custom.kinds, names) if (len(deed) > 1 and deed[1] == person) == is_own}
                    self.assertEqual({told_marked(told_after(custom, stand, deed), person).code for deed in row}, told)

    def test_refused(self):
        custom = clocked_custom(1, 2, 3)
        for call in (others_deeds, own_deeds):
            for word, bad in [("stand", None), ("room", Stand("s", [None, None])), ("seats", Stand("r", [None])),
                              ("clocks", Stand("r", [None, None])), ("number", Stand("r", [None, None], [(4, True)]))]:
                self.refuses((BadStand, word), call, custom, bad, None)
            for person in NO_LABELS:
                self.refuses((BadPerson, person), call, custom, custom.start, person)


class RoundsTest(Case):
    def test_written_rounds(self):
        custom = clocked_custom(1, 1, 3, kinds=[("x", 1), ("y", 0), ("z", 2)], clauses=[
            Clause("x", [Is("p", "first")], [Zero("k")]), Clause("z", [], [Put("p", "second")]),
            Clause("year", [AtLeast("k", 3)], [Put("p", "nobody")])])
        stand = Stand("r", ["ann"], [(0, True)])
        rounds = [([("y",)], [("x", "ann")]), ([], None), [(["z", "b", "ann"], ("x", "b")), [["x", "ann"], ["x", "ann"]]],
                  ((), ()), ((), None), ((), [("z", "ann", "b")])]
        found = ends_of_rounds(custom, stand, "ann", rounds)
        self.assertEqual(found, tuple(Stand("r", [seat], [(number, True)]) for seat, number in [
            ("ann", 1), ("ann", 2), ("ann", 1), ("ann", 2), (None, 3), (None, 3)]))
        self.is_tuple_throughout(found)
        self.assertEqual(ends_of_rounds(custom, stand, "ann", []), ())

    def test_against_the_second_way_to_walk(self):
        for seed in range(120):
            custom = random_custom(seed)
            stand = random_stand(seed, custom)
            deeds = all_deeds(custom.kinds, ("a", "b", "zed"))
            others = [deed for deed in deeds if len(deed) == 1 or deed[1] != "zed"]
            own = [deed for deed in deeds if len(deed) > 1 and deed[1] == "zed"]
            rounds = [(others[seed % 5:4], own[:2]), (others[:1] * 3, None), ((), own[-1:]), (others[::3], ())]
            told, now = [], stand
            for row, mine in rounds:
                for deed in (*row, *(mine or ())):
                    now = told_after(custom, now, deed)
                now = told_end(custom, now)
                told.append(now)
            self.assertEqual(ends_of_rounds(custom, stand, "zed", rounds), tuple(told))

    def test_refused_rounds(self):
        custom = clocked_custom(1, 1, kinds=[("x", 1), ("y", 0), ("z", 2)])
        right = ([("x", "b"), ("y",), ("z", "b", "ann")], [("x", "ann"), ("z", "ann", "b")])

        def refused(index, word, rounds):
            self.refuses((BadRound, index, word), ends_of_rounds, custom, custom.start, "ann", rounds)
        self.assertEqual(len(ends_of_rounds(custom, custom.start, "ann", [right] * 3)), 3)
        for thing in NO_SEQUENCES:
            refused(0, "rounds", thing)
            refused(1, "round", [right, thing, None])
            refused(1, "round", [right, (thing, ()), None])
            if thing is not None:
                refused(1, "round", [right, ((), thing), None])
                refused(0, "round", [([("x", "ann")], thing)])
        for row in ((), ((),), ((), (), ())):
            refused(1, "round", [right, row, None])
        bad = [("deed", None), ("deed", ()), ("deed", "x"), ("kind", ("far", "a")), ("arity", ("x",)), ("arity", ("x", "b", "b")),
               ("person", ("x", "A"))]
        for word, deed in bad:
            refused(1, word, [right, ([("y",), deed, ("x", "ann")], [3]), None])
            refused(1, word, [right, ([], [("x", "ann"), deed, 3]), None])
        for deed in (("x", "ann"), ("z", "ann", "b"), ["z", "ann", "ann"]):
            refused(1, "others", [right, ([("y",), deed, 3], [3]), None])
        for deed in (("x", "b"), ("y",), ("z", "b", "ann"), ["x", "b"]):
            refused(1, "own", [right, ((), [("x", "ann"), deed, 3]), None])

    def test_errors_in_order(self):
        custom = clocked_custom(1, 1, 3)
        for word, bad in [("stand", None), ("room", Stand("s", [None])), ("seats", Stand("r", [None, None])),
                          ("clocks", Stand("r", [None])), ("number", Stand("r", [None], [(4, True)]))]:
            self.refuses((BadStand, word), ends_of_rounds, custom, bad, None, None)
        for person in NO_LABELS:
            self.refuses((BadPerson, person), ends_of_rounds, custom, custom.start, person, None)

    def test_of_any_size(self):
        custom = clocked_custom(3, 3, 40, 40)
        self.assertEqual(len(ends_of_rounds(custom, custom.start, "a", [((), None)] * 2)), 2)
        self.assertEqual(len(own_deeds(custom, custom.start, "a")), 1)

    def test_keeps_nothing(self):
        custom = plain_custom()
        self.keeps_nothing(lambda rounds: ends_of_rounds(custom, custom.start, "ann", rounds), [
            [[["takes", "bob"]], [["takes", "ann"]]], [[], None]])

    def test_no_deed_is_in_both_rows(self):
        kinds = Kinds([("x", 1), ("y", 0), ("z", 2)])
        custom = clocked_custom(1, 1, kinds=kinds.rows)
        rows = [set(call(custom, Stand("r", ["b"]), "b")) for call in (others_deeds, own_deeds)]
        self.assertFalse(rows[0] & rows[1])
        self.assertEqual(rows[0] | rows[1], set(itertools.chain(deeds_over(kinds, ["b"]))))


if __name__ == "__main__":
    unittest.main()
