import unittest

from searchback.clauses import Clause, Put, ToRoom
from searchback.customs import Custom
from searchback.errors import BadIndex, BadPerson, BadStand
from searchback.kinds import Kinds
from searchback.patterns import all_stands, deeds_over, plain_names, plain_stand, stand_at_place, stand_place
from searchback.stand import Stand
from tests.helpers import (
    NO_LABELS, NO_WHOLES, Case, Odd, all_deeds, clocked_custom, every_stand, random_custom, random_stand, told_after,
    told_plain, wide_custom,
)


class PlainTest(Case):
    def test_names(self):
        stand = Stand("calm", ["zed", None, "ann"], [(3, True)])
        self.assertEqual(plain_names(stand), {"zed": "a", "ann": "b"})
        self.assertEqual(list(plain_names(stand)), ["zed", "ann"])
        self.assertEqual(plain_stand(stand), Stand("calm", ["a", None, "b"], [(3, True)]))
        self.assertEqual(plain_names(Stand("r", [None, None])), {})
        self.assertEqual(plain_names(Stand("r", ["b", "c", "b"])), {"b": "a", "c": "b"})
        self.assertEqual(plain_names(Stand("r", ["c", "b", "a"])), {"c": "a", "b": "b", "a": "c"})
        self.assertIs(type(plain_names(stand)), dict)

    def test_drawn_stands(self):
        for seed in range(200):
            custom = random_custom(seed)
            stand = random_stand(seed, custom)
            self.assertEqual(plain_stand(stand), told_plain(stand))
            self.assertEqual(plain_stand(stand), stand.renamed(plain_names(stand)))
            self.assertEqual(plain_stand(plain_stand(stand)), plain_stand(stand))

    def test_equal_where_one_can_be_renamed_into_the_other(self):
        rows = every_stand(clocked_custom(1, 3), ("a", "b", "c"))
        for one in rows:
            for other in rows:
                fits = [place for place, (a, b) in enumerate(zip(one.seats, other.seats)) if (a is None) == (b is None)]
                pairs = set(zip(one.seats, other.seats))
                renames = len(fits) == 3 and len({a for a, _ in pairs}) == len(pairs) == len({b for _, b in pairs})
                self.assertEqual(plain_stand(one) == plain_stand(other), renames)


class OrderTest(Case):
    def test_a_written_order(self):
        custom = Custom(Kinds([("x", 0)]), ["s", "r"], ["q", "p"], [("k", 1, True)], [])
        rows = [(None, None), (None, "a"), ("a", None), ("a", "a"), ("a", "b")]
        clocks = [(0, False), (0, True), (1, False), (1, True)]
        told = [Stand(room, row, [clock]) for room in ("s", "r") for row in rows for clock in clocks]
        self.assertEqual(list(all_stands(custom)), told)

    def test_three_seats_in_order(self):
        rows = [stand.seats for stand in all_stands(clocked_custom(1, 3))]
        signs = {None: 0, "a": 1, "b": 2, "c": 3}
        self.assertEqual(len(rows), 15)
        self.assertEqual(rows, sorted(rows, key=lambda row: [signs[person] for person in row]))
        self.assertEqual(rows[0], (None, None, None))
        self.assertEqual(rows[-1], ("a", "b", "c"))

    def test_all_plain_stands_once(self):
        for seed in range(60):
            custom = random_custom(seed, cap=3)
            rooms = {room: place for place, room in enumerate(custom.rooms)}
            plain = [stand for stand in every_stand(custom, ("a", "b", "c")) if told_plain(stand) == stand]
            told = sorted(plain, key=lambda stand: (
                rooms[stand.room], [person or "" for person in stand.seats], stand.clocks))
            self.assertEqual(list(all_stands(custom)), told)
            self.assertEqual(len(told), custom.most_stands)

    def test_places(self):
        for seed in range(60):
            custom = random_custom(seed, cap=3)
            for place, stand in enumerate(all_stands(custom)):
                self.assertEqual(stand_place(custom, stand), place)
                self.assertEqual(stand_at_place(custom, place), stand)
        custom = wide_custom()
        for seed in range(60):
            stand = random_stand(seed, custom, ("zed", "ann", "b", "a"))
            self.assertEqual(stand_at_place(custom, stand_place(custom, stand)), told_plain(stand))

    def test_the_greatest_shape(self):
        custom = clocked_custom(3, 3, 40, 40)
        self.assertEqual(custom.most_stands, 302580)
        last = Stand("t", ["a", "b", "c"], [(40, True), (40, True)])
        self.assertEqual(stand_place(custom, last), 302579)
        self.assertEqual(stand_at_place(custom, 302579), last)
        self.assertEqual(stand_at_place(custom, 0), Stand("r", [None] * 3, [(0, False), (0, False)]))
        rows = all_stands(custom)
        self.assertIs(iter(rows), rows)
        self.assertEqual([next(rows).clocks for _ in range(3)], [
            ((0, False), (0, False)), ((0, False), (0, True)), ((0, False), (1, False))])

    def test_refused_stands(self):
        custom = clocked_custom(2, 2, 3)
        for word, stand in [
                ("stand", None), ("stand", Odd()), ("stand", ("r", (None, None), ((0, True),))),
                ("room", Stand("t", [None], [])), ("seats", Stand("r", [None], [])), ("clocks", Stand("r", [None] * 2)),
                ("number", Stand("r", [None] * 2, [(4, True)]))]:
            self.refuses((BadStand, word), stand_place, custom, stand)

    def test_refused_places(self):
        custom = clocked_custom(2, 2, 3)
        for place in (*NO_WHOLES, -1, custom.most_stands, 10 ** 30):
            self.refuses((BadIndex, place), stand_at_place, custom, place)


class DeedsTest(Case):
    def test_a_written_order(self):
        kinds = Kinds([("sells", 2), ("open", 0), ("takes", 1)])
        self.assertEqual(list(deeds_over(kinds, ["zed", "a"])), [
            ("sells", "zed", "zed"), ("sells", "zed", "a"), ("sells", "zed", "b"),
            ("sells", "a", "zed"), ("sells", "a", "a"), ("sells", "a", "b"),
            ("sells", "b", "zed"), ("sells", "b", "a"), ("sells", "b", "b"),
            ("sells", "b", "c"), ("open",), ("takes", "zed"), ("takes", "a"), ("takes", "b")])
        self.assertEqual(list(deeds_over(kinds, ())), [
            ("sells", "a", "a"), ("sells", "a", "b"), ("open",), ("takes", "a")])
        self.assertEqual(list(deeds_over(Kinds([("z", 2)]), ("b",)))[-1], ("z", "a", "c"))

    def test_many_persons(self):
        persons = [chr(97 + number) for number in range(26)]
        deeds = list(deeds_over(Kinds([("x", 2), ("y", 1)]), persons))
        self.assertEqual(len(deeds), 27 * 27 + 1 + 27)
        self.assertEqual(deeds[27 * 27], ("x", "aa", "ab"))

    def test_a_generator_that_keeps_nothing(self):
        deeds = deeds_over(Kinds([("x", 1)]), ["a"])
        self.assertIs(iter(deeds), deeds)
        self.assertEqual(next(deeds), ("x", "a"))
        self.keeps_nothing(lambda persons: list(deeds_over(Kinds([("x", 2)]), persons)), ["a", "b"])

    def test_refused_persons(self):
        kinds = Kinds([("x", 0)])
        for person in NO_LABELS:
            self.refuses((BadPerson, person), lambda: list(deeds_over(kinds, ["a", person, "a"])))
        self.refuses((BadPerson, "a"), lambda: list(deeds_over(kinds, ["a", "b", "a", "b"])))
        self.refuses((BadPerson, "b"), lambda: list(deeds_over(kinds, ["a", "b", "b", 7])))
        with self.assertRaises(BadPerson):
            next(deeds_over(kinds, (3,)))

    def test_two_strangers_are_enough(self):
        for seed in range(120):
            custom = random_custom(seed)
            stand = random_stand(seed, custom, ("ann", "b", "a"))
            told = {told_plain(told_after(custom, stand, deed)).code for deed in deeds_over(custom.kinds, stand.persons)}
            names = ("ann", "a", "b", "c", "zed", "yi", "xu")
            self.assertEqual(told, {
                told_plain(told_after(custom, stand, deed)).code for deed in all_deeds(custom.kinds, names)})

    def test_both_strangers_are_needed(self):
        custom = clocked_custom(1, 2, kinds=[("x", 2)], clauses=[
            Clause("x", [], [Put("p", "first"), Put("q", "second"), ToRoom("r")])])
        stands = [told_after(custom, custom.start, deed) for deed in deeds_over(custom.kinds, ())]
        self.assertEqual([stand.seats for stand in stands], [("a", "a"), ("a", "b")])


if __name__ == "__main__":
    unittest.main()
