import unittest

from searchback.clauses import AtLeast, Clause, Is, Put, Zero
from searchback.errors import BadHeights, BadQuestion, NoKind, NoPair, TooMany
from searchback.heights import Heights, heights_fault
from searchback.pairs import Pair
from searchback.questions import Filled, Reached, Room, Who
from searchback.searching import Found, searching
from searchback.stand import Stand
from tests.helpers import (
    NO_SEQUENCES, NO_WHOLES, Case, Odd, clocked_custom, drawn_questions, plain_custom, searched_customs, told_beginnings,
    told_heights, told_pair_graph, told_years_of,
)


def pair_of(*rows):
    return Pair(*[Stand("r", row) for row in rows])


ONE, TWO, THREE = pair_of([None], ["a"]), pair_of(["a"], ["b"]), pair_of(["a", None], ["a", "b"])


class HeightsTest(Case):
    def test_a_table(self):
        table = Heights([[ONE, 3], (TWO, 0), (THREE, 10 ** 30)])
        self.assertEqual(table.rows, ((ONE, 3), (TWO, 0), (THREE, 10 ** 30)))
        self.is_tuple_throughout(table.rows)
        self.assertEqual((len(table), list(table), table.most), (3, list(table.rows), 10 ** 30))
        empty = Heights(())
        self.assertEqual((len(empty), empty.rows, empty.most), (0, (), 0))
        self.assertEqual(Heights([(TWO, 0)]).most, 0)

    def test_heights_of_pairs(self):
        table = Heights([(ONE, 3), (TWO, 1), (THREE, 7)])
        for rows, told in [(([None], ["zed"]), 3), ((["zed"], [None]), 3), ((["b"], ["a"]), 1), ((["q"], ["zed"]), 1),
                           ((["b", "a"], ["b", None]), 7), ((["x", None], ["x", "y"]), 7)]:
            self.assertEqual(table.of(pair_of(*rows)), told)
        for rows in ((["a"], ["a"]), ([None], [None]), (["far", "q"], ["far", "q"])):
            self.assertEqual(table.of(pair_of(*rows)), 0)
        for pair in (pair_of(["a", None], ["b", "a"]), pair_of([None, None], [None, "a"]),
                     Pair(Stand("s", ["a"]), Stand("r", ["b"])), Pair(Stand("r", ["a"], [(0, True)]), Stand("r", ["b"]))):
            self.refuses((NoPair,), table.of, pair)
            self.refuses((NoPair,), Heights([]).of, pair)

    def test_refused_rows(self):
        for thing in NO_SEQUENCES:
            self.refuses((BadHeights, 0, "rows"), Heights, thing)
        for row in (None, 3, "ab", (), (ONE,), (ONE, 1, 1), (1, ONE), ((ONE.one, ONE.other), 1), (ONE.one, 1), {ONE.one.room: 1},
                    (None, 1), Odd(), *[(ONE, number) for number in (*NO_WHOLES, -1)]):
            self.refuses((BadHeights, 1, "row"), Heights, [(TWO, 1), row, None])
        for pair in (pair_of([None], ["b"]), pair_of(["b"], ["a"]), pair_of(["b"], ["b"])):
            self.refuses((BadHeights, 1, "plain"), Heights, [(TWO, 1), (pair, 1), None])
            self.refuses((BadHeights, 0, "row"), Heights, [(pair, -1)])
        for pair in (pair_of([None], [None]), pair_of(["a"], ["a"])):
            self.refuses((BadHeights, 1, "equal"), Heights, [(TWO, 1), (pair, 1), None])
        swapped = pair_of(["a", "b"], ["a", None])
        for again in (THREE, swapped):
            self.refuses((BadHeights, 2, "double"), Heights, [(THREE, 1), (ONE, 1), (again, 2), None])
        self.refuses((BadHeights, 1, "double"), Heights, [(swapped, 1), (THREE, 1)])
        self.refuses((BadHeights, 1, "double"), Heights, [(ONE, 1), (pair_of(["a"], [None]), 1)])
        self.refuses((BadHeights, 1, "double"), Heights, [(TWO, 1), (TWO, 1)])

    def test_keeps_nothing(self):
        rows = [[ONE, 3], [TWO, 1]]
        table = Heights(rows)
        rows[0][1] = 5
        rows.pop()
        self.assertEqual(table.rows, ((ONE, 3), (TWO, 1)))
        self.assertEqual(table.of(ONE), 3)


def right_table(custom, questions, without):
    """The codes of unequal pairs that come, with their heights; None if the questions are endless."""
    graph = told_pair_graph(custom, told_beginnings(custom), without)
    heights = told_heights(custom, graph, questions)
    if None in heights.values():
        return None
    return {pair: height for pair, height in heights.items() if pair[0] != pair[1]}


def heights_of(table):
    """The Heights of the codes, with only the first of a pair and its swapped one."""
    rows, seen = [], set()
    for (one, other), height in sorted(table.items(), key=str):
        pair = Pair(Stand(*one), Stand(*other))
        back = pair.swapped().plain()
        if (back.one.code, back.other.code) not in seen:
            seen.add((one, other))
            rows.append((pair, height))
    return rows


def told_fault(custom, beginnings, table, questions, without):
    """The word of the table {codes: height}, by going through all pairs."""
    folded = dict(table)
    for (one, other), height in table.items():
        back = Pair(Stand(*other), Stand(*one)).plain()
        folded[(back.one.code, back.other.code)] = height
    if any(pair not in folded for pair in beginnings if pair[0] != pair[1]):
        return "beginning"
    graph = told_pair_graph(custom, table, without)
    for pair in table:
        for to in graph[pair][0]:
            if to[0] != to[1] and (to not in folded or folded[to] > folded[pair]):
                return "deed"
    for pair in table:
        to = graph[pair][1]
        if to[0] == to[1]:
            continue
        if to not in folded or (folded[to] > 0 and folded[pair] < folded[to] + 1):
            return "end"
        unlike = any(question.of(custom, Stand(*to[0])) != question.of(custom, Stand(*to[1])) for question in questions)
        if unlike and folded[pair] == 0:
            return "end"
    return None


class FaultTest(Case):
    def drawn(self, many, most=150):
        for seed, custom in searched_customs(many):
            if len(told_beginnings(custom)) <= most:
                questions = drawn_questions(seed, custom, 2)
                without = custom.kinds.names[:(0, 0, 1, 2)[seed % 4]]
                table = right_table(custom, questions, without)
                if table is not None:
                    yield seed, custom, questions, without, table

    def test_right_tables(self):
        for seed, custom, questions, without, table in self.drawn(90):
            rows = heights_of(table)
            self.assertIsNone(heights_fault(custom, Heights(rows), *questions, without=without))
            higher = Heights([(pair, 2 * height + 3 if height else 0) for pair, height in rows])
            self.assertIsNone(heights_fault(custom, higher, *questions, without=without))
            found = searching(custom, *questions, without=without)
            self.assertIsInstance(found, Found)
            self.assertEqual(len(found.heights), len(rows))
            for pair, height in rows:
                self.assertEqual(found.heights.of(pair), height)

    def test_tables_with_one_row_changed(self):
        words = set()
        for seed, custom, questions, without, table in self.drawn(120, 60):
            rows = heights_of(table)
            beginnings = told_beginnings(custom)
            for place in range(0, len(rows), 1 + len(rows) // 12):
                pair, height = rows[place]
                for changed in ([(pair, height - 1)] if height else [], [(pair, height + 1)], [], [(pair, 0)]):
                    again = [*rows[:place], *changed, *rows[place + 1:]]
                    codes = {(one.one.code, one.other.code): many for one, many in again}
                    told = told_fault(custom, beginnings, codes, questions, without)
                    found = heights_fault(custom, Heights(again), *questions, without=without)
                    self.assertEqual(found, told, seed)
                    words.add(found)
        self.assertEqual(words, {None, "beginning", "deed", "end"})

    def test_written_words(self):
        # A record puts somebody into the seat; at the third idle year's end nobody sits there.
        custom = clocked_custom(1, 1, 2, clauses=[
            Clause("x", [], [Put("p", "first"), Zero("k")]), Clause("year", [AtLeast("k", 2)], [Put("p", "nobody")])])
        question = Who("p")
        rows = list(searching(custom, question).heights)
        for thing in (None, 3, [], rows, Odd()):
            self.assertEqual(heights_fault(custom, thing, question), "heights")
        for stand in (Stand("s", ["b"], [(0, True)]), Stand("r", ["b"]), Stand("r", ["b", None], [(0, True)]),
                      Stand("r", ["b"], [(3, True)])):
            one = Stand(stand.room, ["a"], stand.clocks) if len(stand.seats) == 1 else Stand("r", ["a", None], [(0, True)])
            self.assertEqual(heights_fault(custom, Heights([(Pair(one, stand), 1)]), question), "stand")
            right = Stand("r", ["a"], [(0, True)])
            self.assertEqual(heights_fault(custom, Heights([(Pair(right, stand), 1)]), question), "stand")
            turned = Pair(stand.renamed({"b": "a"}), Stand("r", ["b"], [(0, True)]))
            self.assertEqual(heights_fault(custom, Heights([(turned, 1)]), question), "stand")
            self.assertEqual(heights_fault(custom, Heights([*rows, (Pair(one, stand), 1)]), question), "stand")
        self.assertEqual(heights_fault(custom, Heights([]), question), "beginning")
        # Such a pair cannot come, but it is listed: what it leads to counts.
        other = Pair(Stand("r", [None], [(1, True)]), Stand("r", ["a"], [(0, True)]))
        self.assertRaises(NoPair, Heights(rows).of, other)
        self.assertIsNone(heights_fault(custom, Heights([*rows, (other, 1)]), question))
        self.assertEqual(heights_fault(custom, Heights([*rows, (other, 0)]), question), "end")
        halted = Pair(Stand("r", [None], [(0, False)]), Stand("r", ["a"], [(0, False)]))
        self.assertEqual(heights_fault(custom, Heights([*rows, (halted, 9)]), question), "end")

    def test_an_end_that_is_not_listed(self):
        custom = clocked_custom(1, 1, 2, clauses=[
            Clause("x", [], [Put("p", "first"), Zero("k")]), Clause("year", [AtLeast("k", 2)], [Put("p", "nobody")])])
        rows = list(searching(custom, Who("p"), without=["x"]).heights)
        self.assertIsNone(heights_fault(custom, Heights(rows), Who("p"), without=["x"]))
        other = Pair(Stand("r", [None], [(0, False)]), Stand("r", ["a"], [(1, True)]))
        for height in (0, 1, 9):
            self.assertEqual(heights_fault(custom, Heights([*rows, (other, height)]), Who("p"), without=["x"]), "end")
        behind = Pair(Stand("r", [None], [(0, False)]), Stand("r", [None], [(2, True)]))
        self.assertIsNone(heights_fault(custom, Heights([*rows, (other, 0), (behind, 0)]), Who("p"), without=["x"]))

    def test_a_deed_ahead_of_an_end(self):
        custom = clocked_custom(1, 1, clauses=[Clause("x", [Is("p", "nobody")], [Put("p", "first")])])
        none, some, two = pair_of([None], [None]), pair_of([None], ["a"]), pair_of(["a"], ["b"])
        self.assertEqual(none.is_equal, True)
        self.assertEqual(heights_fault(custom, Heights([(some, 4), (two, 4)]), Who("p")), "end")
        self.assertEqual(heights_fault(custom, Heights([(some, 3), (two, 4)]), Who("p")), "deed")
        self.assertEqual(heights_fault(custom, Heights([(some, 3)]), Who("p")), "beginning")
        self.assertIsNone(heights_fault(custom, Heights([(some, 0), (two, 0)]), Room()))

    def test_errors_in_order(self):
        custom = plain_custom()
        table = Heights([])
        for word, question in [("question", None), ("seat", Who("far")), ("seat", Filled("idle")), ("clock", Reached("owner", 1)),
                               ("number", Reached("idle", 4))]:
            self.refuses((BadQuestion, word), heights_fault, custom, None, Room(), question, without=None)
        for thing in (None, "sells", 3, {"sells": 1}):
            self.refuses((NoKind, thing), heights_fault, custom, None, Room(), without=thing)
        for name in ("year", "idle", 3, None, ("sells",)):
            self.refuses((NoKind, name), heights_fault, custom, table, Room(), without=["sells", name, "far"])
        big = clocked_custom(1, 2, 40)
        self.refuses((NoKind, "far"), heights_fault, big, table, Room(), without=["far"])
        self.refuses((TooMany, 410), heights_fault, big, None, Room())
        self.refuses((TooMany, 60112), heights_fault, clocked_custom(1, 2, 16), None, Room())


if __name__ == "__main__":
    unittest.main()
