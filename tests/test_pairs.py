import itertools
import unittest

from searchback.clauses import Clause, Is, Put, ToRoom, Zero
from searchback.errors import BadDeed, BadMap, BadPair, BadQuestion, BadStand, TooMany
from searchback.likeness import joined_stands, likenesses
from searchback.pairs import Pair, beginning_pairs, ended_pair, is_unlike, led_pair, most_pairs
from searchback.questions import Filled, Reached, Room, Together, Who
from searchback.stand import Stand
from searchback.stands import coming_stands
from tests.helpers import (
    Case, Odd, clocked_custom, drawn_questions, plain_custom, random_custom, random_stand, small_customs, told_after,
    told_answer, told_beginnings, told_end, told_joint, told_persons, wide_custom,
)


def pair_of(*rows):
    return Pair(*[Stand("r", row) for row in rows])


class PairTest(Case):
    def test_attributes(self):
        one, other = Stand("r", ["bob", None, "ann"], [(1, True)]), Stand("s", ["cy", "bob", "cy"], [(0, True)])
        pair = Pair(one, other)
        self.assertEqual((pair.one, pair.other), (one, other))
        self.assertEqual(pair.persons, ("bob", "ann", "cy"))
        self.assertEqual((pair.is_equal, pair.is_plain), (False, False))
        self.assertEqual(pair.swapped(), Pair(other, one))
        self.assertEqual(pair.swapped().persons, ("cy", "bob", "ann"))
        self.assertEqual(pair.plain(), Pair(
            Stand("r", ["a", None, "b"], [(1, True)]), Stand("s", ["c", "a", "c"], [(0, True)])))
        self.assertEqual(pair_of([None], [None]).persons, ())

    def test_equal_stands(self):
        self.assertIs(pair_of(["a"], ["a"]).is_equal, True)
        self.assertIs(pair_of(["a"], ["b"]).is_equal, False)
        self.assertIs(Pair(Stand("r", ["a"], [(1, True)]), Stand("r", ["a"], [(1, False)])).is_equal, False)

    def test_plain_ones(self):
        for rows, told in [
                ((["a"], ["b"]), True), ((["b"], ["a"]), False), (([None], ["a"]), True), (([None], ["b"]), False),
                ((["a", "b"], ["c", "a"]), True), ((["b", "a"], ["a", "b"]), False), ((["a", "a"], ["b", None]), True),
                (([None], [None]), True), ((["a", "b", "c"], ["d", "e", "f"]), True), ((["a", "b"], ["d", "c"]), False)]:
            self.assertIs(pair_of(*rows).is_plain, told, rows)

    def test_drawn_pairs(self):
        for seed in range(200):
            custom = random_custom(seed)
            one, other = random_stand(seed, custom), random_stand(seed + 1000, custom)
            pair = Pair(one, other)
            self.assertEqual(pair.persons, told_persons(one, other))
            plain = pair.plain()
            self.assertEqual((plain.one.code, plain.other.code), told_joint(one, other))
            self.assertTrue(plain.is_plain)
            self.assertEqual(pair.is_plain, plain == pair)
            self.assertEqual(plain, pair.renamed(dict(zip(pair.persons, plain.persons))))
            self.assertEqual(pair.swapped().swapped(), pair)

    def test_equal_by_both(self):
        one, other = Stand("r", ["a"]), Stand("r", ["b"])
        self.same_only(lambda: Pair(one, other), [Pair(other, one), Pair(one, one), Pair(other, other), (one, other)])

    def test_refused(self):
        stand = Stand("r", ["a"])
        for thing in (None, "r", ("r", ("a",), ()), stand.code, Odd(), Pair(stand, stand)):
            self.refuses((BadPair, "one"), Pair, thing, thing)
            self.refuses((BadPair, "other"), Pair, stand, thing)

    def test_renamed(self):
        pair = pair_of(["a", "b"], ["c", "a"])
        names = {"a": "b", "b": "c", "c": "zed", "far": 7}
        self.assertEqual(pair.renamed(names), pair_of(["b", "c"], ["zed", "b"]))
        self.assertEqual(names, {"a": "b", "b": "c", "c": "zed", "far": 7})
        self.refuses((BadMap, "map"), pair.renamed, [("a", "b")])
        self.refuses((BadMap, "person"), pair.renamed, {"a": 3, "b": "x"})
        self.refuses((BadMap, "label"), pair.renamed, {"a": "x", "b": "x", "c": "X"})
        self.refuses((BadMap, "merged"), pair.renamed, {"a": "x", "b": "y", "c": "x"})


class LedTest(Case):
    def test_written_steps(self):
        custom = plain_custom()
        pair = Pair(Stand("free", ["ann"], [(2, True)]), Stand("free", [None], [(0, True)]))
        self.assertEqual(led_pair(custom, pair, ("takes", "bob")), Pair(
            Stand("free", ["ann"], [(2, True)]), Stand("free", ["bob"], [(0, True)])))
        self.assertEqual(led_pair(custom, pair, ["sells", "ann", "cy"]).one.seats, ("cy",))
        self.assertEqual(ended_pair(custom, pair), Pair(
            Stand("free", [None], [(3, True)]), Stand("free", [None], [(1, True)])))

    def test_drawn_steps_keep_the_names(self):
        for seed in range(120):
            custom = random_custom(seed)
            one, other = random_stand(seed, custom), random_stand(seed + 500, custom)
            pair = Pair(one, other)
            self.assertEqual(ended_pair(custom, pair), Pair(told_end(custom, one), told_end(custom, other)))
            for name, arity in custom.kinds.rows:
                deed = (name, "b", "zed")[:arity + 1]
                self.assertEqual(led_pair(custom, pair, deed), Pair(
                    told_after(custom, one, deed), told_after(custom, other, deed)))

    def test_unlike(self):
        for seed in range(200):
            custom = random_custom(seed)
            one, other = random_stand(seed, custom), random_stand(seed + 700, custom)
            asked = drawn_questions(seed, custom, 3)
            told = [told_answer(custom, one, question) != told_answer(custom, other, question) for question in asked]
            self.assertIs(is_unlike(custom, Pair(one, other), *asked), any(told))
            self.assertIs(is_unlike(custom, Pair(one, one), *asked), False)

    def test_refused_stands_and_deeds(self):
        custom = clocked_custom(1, 1, 3)
        right = Stand("r", ["a"], [(0, True)])
        for word, bad in [("room", Stand("s", ["a"])), ("seats", Stand("r", ["a", "b"])), ("clocks", Stand("r", ["a"])),
                          ("number", Stand("r", ["a"], [(4, True)]))]:
            for pair in (Pair(bad, Stand("none", ["a"])), Pair(right, bad)):
                self.refuses((BadStand, word), led_pair, custom, pair, None)
                self.refuses((BadStand, word), ended_pair, custom, pair)
                self.refuses((BadStand, word), is_unlike, custom, pair, Room())
                self.refuses((BadQuestion, "seat"), is_unlike, custom, pair, Room(), Who("far"))
        for word, deed in [("deed", ()), ("deed", None), ("kind", ("z", "a")), ("arity", ("x",)), ("person", ("x", 3))]:
            self.refuses((BadDeed, word), led_pair, custom, Pair(right, right), deed)

    def test_refused_questions(self):
        custom = clocked_custom(1, 2, 3)
        pair = Pair(custom.start, custom.start)
        for word, question in [("question", None), ("question", Odd()), ("seat", Filled("k")), ("seat", Together("p", "z")),
                               ("clock", Reached("p", 1)), ("number", Reached("k", 4))]:
            self.refuses((BadQuestion, word), is_unlike, custom, pair, question)
            self.refuses((BadQuestion, word), is_unlike, custom, pair, Room(), question, None)


class BeginningTest(Case):
    def test_written_pairs(self):
        custom = clocked_custom(1, 1, clauses=[Clause("x", [], [Put("p", "first")])])
        self.assertEqual(list(beginning_pairs(custom)), [
            pair_of([None], [None]), pair_of([None], ["a"]), pair_of(["a"], [None]), pair_of(["a"], ["b"]),
            pair_of(["a"], ["a"])])

    def test_in_order_against_going_through_all(self):
        for seed, custom in small_customs(60, most=60):
            pairs = list(beginning_pairs(custom))
            codes = [(pair.one.code, pair.other.code) for pair in pairs]
            self.assertEqual(len(set(codes)), len(codes))
            self.assertEqual(set(codes), told_beginnings(custom), seed)
            ends = coming_stands(custom).ends
            told = [joined_stands(one, other, likeness) for one in ends for other in ends
                    for likeness in likenesses(len(one.persons), len(other.persons))]
            self.assertEqual(pairs, [Pair(*both) for both in told])

    def test_three_seats(self):
        custom = clocked_custom(1, 3, kinds=[("x", 2), ("y", 1)], clauses=[
            Clause("x", [], [Put("p", "first"), Put("q", "second")]), Clause("y", [], [Put("o", "first")])])
        pairs = list(beginning_pairs(custom))
        ends = len(coming_stands(custom).ends)
        self.assertEqual(ends, 9)
        self.assertEqual(len({(pair.one.code, pair.other.code) for pair in pairs}), len(pairs))
        self.assertEqual({(pair.one.code, pair.other.code) for pair in pairs}, told_beginnings(custom))
        self.assertIn(pair_of(["a", "b", "c"], ["d", "e", "f"]), pairs)
        self.assertTrue(all(pair.is_plain for pair in pairs))

    def test_first_items_at_once(self):
        custom = clocked_custom(1, 1, 1, 2)
        rows = beginning_pairs(custom)
        self.assertIs(iter(rows), rows)
        self.assertEqual(next(rows), Pair(custom.start, custom.start))

    def test_too_many(self):
        def first_of(custom):
            return next(beginning_pairs(custom))
        self.refuses((TooMany, 410), first_of, clocked_custom(1, 2, 40))
        self.refuses((TooMany, 877 * 26 * 26), first_of, clocked_custom(1, 3, 12))
        self.refuses((TooMany, 60112), first_of, clocked_custom(1, 2, 16))
        self.refuses((TooMany, 62720), first_of, clocked_custom(1, 1, 1, 13))
        # No custom has just 60,000 pairs; these are the nearest below.
        for custom, count in [(clocked_custom(3, 1, 17), 58320), (clocked_custom(1, 2, 15), 53248),
                              (clocked_custom(1, 3, 3), 56128)]:
            self.assertEqual(most_pairs(custom, custom), count)
            self.assertEqual(first_of(custom), Pair(custom.start, custom.start))


class MostTest(Case):
    def test_of_all_seats(self):
        rows = {2: 5, 3: 15, 4: 52, 5: 203, 6: 877}
        for one, other in itertools.product((1, 2, 3), repeat=2):
            self.assertEqual(most_pairs(clocked_custom(1, one), clocked_custom(1, other)), rows[one + other])
            self.assertEqual(most_pairs(clocked_custom(2, one, 3), clocked_custom(3, other, 4, 1)),
                             rows[one + other] * 16 * 120)
        self.assertEqual(most_pairs(wide_custom(), wide_custom()), 877 * (3 * 8 * 12) ** 2)

    def test_the_number_of_plain_pairs(self):
        for seats in (1, 2):
            custom = clocked_custom(2, seats, kinds=[("x", 2), ("y", 0)], clauses=[
                Clause("x", [], [Put("p", "first"), Put("q", "second")][:seats]), Clause("y", [], [ToRoom("s")]),
                Clause("year", [Is("p", "nobody")], [Zero("k")][:0])])
            codes = {told_joint(one, other) for one in stands_of(seats) for other in stands_of(seats)}
            self.assertEqual(most_pairs(custom, custom), len(codes))


def stands_of(seats):
    rows = itertools.product((None, "a", "b", "c", "d"), repeat=seats)
    return [Stand(room, row) for row in rows for room in ("r", "s")]


if __name__ == "__main__":
    unittest.main()
