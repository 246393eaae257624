import unittest

from searchback.closed import Alike, Closed, Covers, Parting
from searchback.clauses import Clause
from searchback.histories import History
from searchback.kinds import Kinds
from searchback.pairs import Pair
from searchback.questions import Room, Who
from searchback.stand import Stand
from tests.helpers import Case, Odd


def pair(one, other, room="r"):
    return Pair(Stand(room, one), Stand("s", other))


class ClosedTest(Case):
    def test_bases(self):
        self.assertEqual((Alike.__bases__, Covers.__bases__), ((Closed,), (Closed,)))

    def test_plain_forms_each_once_in_order(self):
        for title in (Alike, Covers):
            table = title([pair(["b"], ["a"]), pair(["a"], ["a"]), pair(["zed"], ["ann"]), pair([None], [None])],
                          [pair(["a"], ["b"]), pair(["c"], ["c"], "t"), pair(["x"], ["y"]), pair(["c"], ["c"])])
            self.assertEqual(table.ends, (pair(["a"], ["b"]), pair(["a"], ["a"]), pair([None], [None])))
            self.assertEqual(table.moments, (pair(["a"], ["b"]), pair(["a"], ["a"], "t"), pair(["a"], ["a"])))
            self.assertEqual((len(table), list(table)), (3, list(table.moments)))
            self.is_tuple_throughout(table.ends)
            self.is_tuple_throughout(table.moments)
            self.assertEqual((title((), ()).ends, len(title((), ()))), ((), 0))

    def test_looking_up(self):
        table = Alike([pair(["b"], ["a"])], (pair(["a"], ["a"]), pair([None], ["a"])))
        self.assertEqual([table.is_end(pair(["x"], ["y"])), table.is_end(pair(["x"], ["x"]))], [True, False])
        self.assertEqual([table.is_moment(pair(["x"], ["y"])), table.is_moment(pair(["x"], ["x"]))], [False, True])
        self.assertEqual([table.is_moment(pair([None], ["c"])), table.is_moment(pair(["c"], [None]))], [True, False])
        # The first stand is the first custom's: a pair and its swapped one are two.
        other = Covers([Pair(Stand("r", ["a"]), Stand("s", ["b", "c"]))], ())
        self.assertTrue(other.is_end(Pair(Stand("r", ["q"]), Stand("s", ["d", "e"]))))
        self.assertFalse(other.is_end(Pair(Stand("r", ["q"]), Stand("s", ["d", "q"]))))
        self.assertFalse(other.is_end(Pair(Stand("s", ["q", "d"]), Stand("r", ["e"]))))
        for answer in (other.is_end(pair(["x"], ["y"])), other.is_moment(pair(["x"], ["y"]))):
            self.assertIs(answer, False)

    def test_equality(self):
        one, other = pair(["a"], ["b"]), pair(["a"], ["a"])
        self.same_only(lambda: Alike([one, other], [one]), [
            Covers([one, other], [one]), Alike([other, one], [one]), Alike([one], [one]), Alike([one, other], [other]),
            Alike([one, other], [one, other]), Alike([one, other], [])])
        self.same_only(lambda: Covers([one], [one, other]), [
            Alike([one], [one, other]), Covers([one], [other, one]), Covers([other], [one, other])])
        self.assertEqual(Alike([pair(["zed"], ["q"])], []), Alike([one, pair(["b"], ["a"])], ()))

    def test_keeps_nothing(self):
        ends, moments = [pair(["a"], ["b"])], [pair(["a"], ["a"])]
        table = Alike(ends, moments)
        ends.clear()
        moments.append(pair([None], [None]))
        self.assertEqual((len(table.ends), len(table)), (1, 1))


class PartingTest(Case):
    def test_attributes_and_equality(self):
        kinds = Kinds([("x", 1)])
        history, empty = History(kinds, [[("x", "a")]]), History(kinds)
        parting = Parting(history, Who("p"), "a", None)
        self.assertEqual((parting.history, parting.question, parting.first, parting.second), (history, Who("p"), "a", None))
        self.same_only(lambda: Parting(history, Who("p"), "a", None), [
            Parting(empty, Who("p"), "a", None), Parting(history, Who("q"), "a", None), Parting(history, Room(), "a", None),
            Parting(history, Who("p"), "b", None), Parting(history, Who("p"), "a", "b"), Parting(history, Who("p"), None, "a")])
        thing = Odd()
        self.assertIs(Parting(thing, 3, Clause("x"), thing).history, thing)


if __name__ == "__main__":
    unittest.main()
