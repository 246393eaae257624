import unittest

from searchback.errors import BadMap, BadStand
from searchback.stand import Stand
from tests.helpers import NO_LABELS, NO_SEQUENCES, NO_WHOLES, Case


class StandTest(Case):
    def test_attributes(self):
        stand = Stand("calm", ["ann", None, "ann"], [[3, True], (0, False)])
        self.assertEqual(stand.room, "calm")
        self.assertEqual(stand.seats, ("ann", None, "ann"))
        self.assertEqual(stand.clocks, ((3, True), (0, False)))
        self.assertEqual(stand.code, ("calm", ("ann", None, "ann"), ((3, True), (0, False))))
        self.is_tuple_throughout(stand.code)
        self.assertIs(type(stand.clocks[0][1]), bool)

    def test_no_clocks(self):
        self.assertEqual(Stand("a", [None]).code, ("a", (None,), ()))
        self.assertEqual(Stand("a", [None], []).clocks, ())

    def test_persons(self):
        self.assertEqual(Stand("a", [None, None]).persons, ())
        self.assertEqual(Stand("a", ["bob", None, "ann"]).persons, ("bob", "ann"))
        self.assertEqual(Stand("a", ["bob", "ann", "bob"]).persons, ("bob", "ann"))
        self.assertEqual(Stand("a", [None, "z", "z"]).persons, ("z",))
        self.is_tuple_throughout(Stand("a", ["b"]).persons)

    def test_words(self):
        for thing in NO_LABELS:
            self.refuses((BadStand, "room"), Stand, thing, ["a"])
        for thing in (*NO_SEQUENCES, (), [], ["a"] * 4, [None] * 4):
            self.refuses((BadStand, "seats"), Stand, "a", thing)
        for thing in NO_LABELS[1:]:
            self.refuses((BadStand, "person"), Stand, "a", ["b", None, thing])
        for thing in (*NO_SEQUENCES, [(1, True)] * 3):
            self.refuses((BadStand, "clocks"), Stand, "a", ["b"], thing)
        for thing in (*NO_SEQUENCES, (), [1], (1, True, True), True):
            self.refuses((BadStand, "clock"), Stand, "a", ["b"], [(1, True), thing])
        for thing in (*NO_WHOLES, -1, 41):
            self.refuses((BadStand, "number"), Stand, "a", ["b"], [(1, True), (thing, True)])
        for thing in (None, 0, 1, "True", [], ()):
            self.refuses((BadStand, "running"), Stand, "a", ["b"], [(1, True), (1, thing)])

    def test_ends(self):
        self.assertEqual(Stand("a", ["b"], [(0, True), (40, False)]).clocks, ((0, True), (40, False)))
        for many in (1, 2, 3):
            self.assertEqual(len(Stand("a", [None] * many).seats), many)

    def test_the_first_word_comes_first(self):
        self.refuses((BadStand, "room"), Stand, "A", (), None)
        self.refuses((BadStand, "seats"), Stand, "a", (), None)
        self.refuses((BadStand, "person"), Stand, "a", ["A"], None)
        self.refuses((BadStand, "clocks"), Stand, "a", ["a"], [None, None, None])
        self.refuses((BadStand, "number"), Stand, "a", ["a"], [(41, 1), None])
        self.refuses((BadStand, "running"), Stand, "a", ["a"], [(40, 1), None])
        self.refuses((BadStand, "clock"), Stand, "a", ["a"], [None, (41, 1)])

    def test_renamed(self):
        stand = Stand("calm", ["ann", None, "bob"], [(3, True)])
        names = {"ann": "bob", "bob": "ann", "cy": None}
        self.assertEqual(stand.renamed(names).code, ("calm", ("bob", None, "ann"), ((3, True),)))
        self.assertEqual(names, {"ann": "bob", "bob": "ann", "cy": None})
        self.assertEqual(stand.code, ("calm", ("ann", None, "bob"), ((3, True),)))
        self.assertEqual(Stand("a", ["b", "b"]).renamed({"b": "c"}).seats, ("c", "c"))
        self.assertEqual(Stand("a", [None]).renamed({}), Stand("a", [None]))

    def test_renamed_refuses(self):
        stand = Stand("calm", ["ann", None, "bob"])
        self.refuses((BadMap, "map"), stand.renamed, [("ann", "a"), ("bob", "b")])
        self.refuses((BadMap, "person"), stand.renamed, {"ann": 3})
        self.refuses((BadMap, "label"), stand.renamed, {"ann": "a", "bob": None})
        self.refuses((BadMap, "merged"), stand.renamed, {"ann": "a", "bob": "a"})
        self.refuses((BadMap, "map"), Stand("a", [None]).renamed, None)

    def test_equal_by_codes(self):
        self.same_only(lambda: Stand("a", ["b", None], [(1, True)]), [
            Stand("b", ["b", None], [(1, True)]), Stand("a", [None, "b"], [(1, True)]), Stand("a", ["b"], [(1, True)]),
            Stand("a", ["b", None], [(1, False)]), Stand("a", ["b", None], [(2, True)]), Stand("a", ["b", None]),
            ("a", ("b", None), ((1, True),))])
        self.assertTrue(Stand("a", ("b",), [[1, True]]) == Stand("a", ["b"], ((1, True),)))

    def test_keeps_nothing(self):
        self.keeps_nothing(Stand, "a", ["b", None], [[1, True], [2, False]])


if __name__ == "__main__":
    unittest.main()
