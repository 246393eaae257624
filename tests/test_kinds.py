import unittest

from searchback.errors import BadKinds, NoKind
from searchback.kinds import Kinds
from tests.helpers import NO_LABELS, NO_SEQUENCES, Case, EqualToAll

ROWS = (("grant", 1), ("sells", 2), ("open", 0))


class KindsTest(Case):
    def test_attributes(self):
        kinds = Kinds([["grant", 1], ("sells", 2), ["open", 0]])
        self.assertEqual(kinds.rows, ROWS)
        self.assertEqual(kinds.names, ("grant", "sells", "open"))
        self.is_tuple_throughout(kinds.rows)
        self.is_tuple_throughout(kinds.names)
        self.assertEqual(len(kinds), 3)
        self.assertEqual(list(kinds), ["grant", "sells", "open"])

    def test_one_to_six_rows(self):
        rows = [(name, 0) for name in ("a", "b", "c", "d", "e", "f", "g")]
        for many in range(1, 7):
            self.assertEqual(len(Kinds(rows[:many])), many)
        self.refuses((BadKinds, 0, "rows"), Kinds, [])
        self.refuses((BadKinds, 0, "rows"), Kinds, ())
        self.refuses((BadKinds, 0, "rows"), Kinds, rows)
        self.refuses((BadKinds, 0, "rows"), Kinds, [None] * 7)

    def test_no_rows(self):
        for thing in NO_SEQUENCES:
            self.refuses((BadKinds, 0, "rows"), Kinds, thing)

    def test_words_of_a_row(self):
        for row in (*NO_SEQUENCES, (), ("a",), ("a", 1, 1), []):
            self.refuses((BadKinds, 1, "row"), Kinds, [("b", 1), row])
        for thing in NO_LABELS:
            self.refuses((BadKinds, 1, "label"), Kinds, [("b", 1), (thing, 1)])
        self.refuses((BadKinds, 1, "year"), Kinds, [("b", 1), ("year", 1)])
        self.refuses((BadKinds, 2, "double"), Kinds, [("b", 1), ("c", 1), ("b", 2)])
        for thing in (-1, 3, None, True, False, "1", 1.0, [], (1,)):
            self.refuses((BadKinds, 1, "arity"), Kinds, [("b", 1), ("c", thing)])

    def test_the_first_word_of_a_row_comes_first(self):
        self.refuses((BadKinds, 0, "label"), Kinds, [("Year", 9)])
        self.refuses((BadKinds, 0, "year"), Kinds, [("year", 9)])
        self.refuses((BadKinds, 1, "double"), Kinds, [("a", 1), ("a", 9)])
        self.refuses((BadKinds, 1, "year"), Kinds, [("a", 1), ("year", 9)])

    def test_all_words_of_a_row_before_the_next_row(self):
        self.refuses((BadKinds, 0, "arity"), Kinds, [("a", 3), None])
        self.refuses((BadKinds, 1, "arity"), Kinds, [("a", 2), ("b", True), ("a", 1)])
        self.refuses((BadKinds, 0, "label"), Kinds, [(None, 3), None])

    def test_equal_by_rows_in_order(self):
        self.same_only(lambda: Kinds(ROWS), [Kinds(ROWS[:2]), Kinds(ROWS[::-1]), ROWS, list(ROWS),
                                             Kinds([("grant", 1), ("sells", 2), ("open", 1)]),
                                             Kinds([("grant", 1), ("sells", 2), ("opens", 0)])])
        self.assertTrue(Kinds(list(ROWS)) == Kinds(tuple(ROWS)))

    def test_in(self):
        kinds = Kinds(ROWS)
        for name in ("grant", "sells", "open"):
            self.assertIs(name in kinds, True)
        for thing in (*NO_LABELS, "year", "gran", "grants", ("grant", 1), 2, EqualToAll()):
            self.assertIs(thing in kinds, False, thing)

    def test_arity_of(self):
        kinds = Kinds(ROWS)
        self.assertEqual([kinds.arity_of(name) for name in kinds], [1, 2, 0])
        for thing in (*NO_LABELS, "year", "gran", ("grant", 1)):
            self.refuses((NoKind, thing), kinds.arity_of, thing)

    def test_keeps_nothing(self):
        self.keeps_nothing(Kinds, [["grant", 1], ["sells", 2]])


class DeedTest(Case):
    def test_deeds(self):
        kinds = Kinds(ROWS)
        for deed in (("open",), ["open"], ("grant", "ann"), ["sells", "ann", "bob"], ("sells", "ann", "ann"),
                     ("grant", "year"), ("grant", "grant")):
            self.assertIsNone(kinds.fault(deed), deed)

    def test_words(self):
        kinds = Kinds(ROWS)
        for thing in (*NO_SEQUENCES, (), [], "open", "grant ann"):
            self.assertEqual(kinds.fault(thing), "deed", thing)
        for thing in (*NO_LABELS, "year", "opens", "ann"):
            self.assertEqual(kinds.fault((thing, "ann")), "kind", thing)
            self.assertEqual(kinds.fault([thing]), "kind", thing)
        for deed in (("open", "ann"), ("grant",), ("grant", "ann", "bob"), ("sells", "ann"), ("sells",),
                     ("sells", "a", "b", "c"), ("open", None)):
            self.assertEqual(kinds.fault(deed), "arity", deed)
        for thing in NO_LABELS:
            self.assertEqual(kinds.fault(("grant", thing)), "person", thing)
            self.assertEqual(kinds.fault(("sells", thing, "ann")), "person", thing)
            self.assertEqual(kinds.fault(("sells", "ann", thing)), "person", thing)

    def test_the_first_word_comes_first(self):
        kinds = Kinds(ROWS)
        self.assertEqual(kinds.fault(("none", None)), "kind")
        self.assertEqual(kinds.fault(("grant", None, 3)), "arity")

    def test_a_deed_is_not_changed(self):
        deed = ["sells", "ann", 3]
        self.assertEqual(Kinds(ROWS).fault(deed), "person")
        self.assertEqual(deed, ["sells", "ann", 3])


if __name__ == "__main__":
    unittest.main()
