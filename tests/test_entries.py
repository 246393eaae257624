import itertools
import unittest

from searchback.entries import Entry, Holding, Known, Noted, Unknown, Without, entry_within
from searchback.errors import BadEntry
from searchback.kinds import Kinds
from tests.helpers import NO_LABELS, NO_SEQUENCES, Case, all_deeds

KINDS = Kinds([("x", 0), ("y", 1), ("z", 0)])
DEEDS = (("x",), ("y", "a"), ("y", "b"), ("z",))
YEARS = [year for many in range(5) for year in itertools.product(DEEDS, repeat=many)]


def told_lets(entry, kinds, year):
    """Whether taking free deeds out of the year can leave the told ones."""
    free = entry.free(kinds)
    for kept in itertools.product((True, False), repeat=len(year)):
        left = [deed for deed, is_kept in zip(year, kept) if is_kept]
        out = [deed for deed, is_kept in zip(year, kept) if not is_kept]
        if tuple(left) == entry.told and all(deed[0] in free for deed in out):
            return True
    return False


def fitting_entries():
    """Entries of all classes that fit the kinds."""
    rows = [(), (DEEDS[0],), (DEEDS[1],), (DEEDS[1], DEEDS[2]), (DEEDS[0], DEEDS[1], DEEDS[0]), (DEEDS[3], DEEDS[3])]
    entries = [Unknown()]
    for told in rows:
        entries += [Known(told), Holding(told)]
    for many in range(4):
        for names in itertools.permutations(KINDS.names, many):
            entries.append(Without(names))
            entries += [Noted(names, told) for told in rows if all(deed[0] in names for deed in told)]
    return entries


class EntryTest(Case):
    def test_attributes(self):
        told = [["x"], ("y", "a")]
        for entry, names, deeds, free in [
                (Known(told), (), (("x",), ("y", "a")), ()), (Without(["z", "x"]), ("z", "x"), (), ("y",)),
                (Unknown(), (), (), ("x", "y", "z")), (Noted(("y", "x"), told), ("y", "x"), (("x",), ("y", "a")), ("z",)),
                (Holding(told), (), (("x",), ("y", "a")), ("x", "y", "z")), (Without([]), (), (), ("x", "y", "z")),
                (Noted([], []), (), (), ("x", "y", "z")), (Known(()), (), (), ())]:
            self.assertIsInstance(entry, Entry)
            self.assertEqual((entry.names, entry.told, entry.free(KINDS)), (names, deeds, free))
            for row in (entry.names, entry.told, entry.free(KINDS)):
                self.is_tuple_throughout(row)

    def test_the_base(self):
        self.assertEqual((Entry().told, Entry().names), ((), ()))

    def test_free_in_the_order_of_the_kinds(self):
        turned = Kinds([("z", 0), ("y", 1), ("x", 0)])
        self.assertEqual(Without(["y"]).free(turned), ("z", "x"))
        self.assertEqual(Noted(["far"], []).free(turned), ("z", "y", "x"))

    def test_written_years(self):
        year = [("x",), ["y", "a"], ("x",)]
        for entry, told in [
                (Known(year), True), (Known(year[:2]), False), (Known([*year, ("x",)]), False), (Known(sorted(map(tuple, year))), False),
                (Unknown(), True), (Without(["z"]), True), (Without(["x"]), False), (Noted(["y"], [("y", "a")]), True),
                (Noted(["y"], []), False), (Noted(["y"], [("y", "b")]), False), (Noted(["x"], [("x",)]), False),
                (Noted(["x"], [("x",), ("x",)]), True), (Holding([("x",), ("x",)]), True), (Holding([("x",)] * 3), False),
                (Holding([("y", "a"), ("x",)]), True), (Holding([("y", "a"), ("y", "a")]), False)]:
            self.assertIs(entry.lets(KINDS, year), told)
        self.assertIs(Known([]).lets(KINDS, ()), True)
        self.assertIs(Known([("y", "b"), ("y", "a")]).lets(KINDS, [("y", "a"), ("y", "b")]), False)

    def test_against_putting_free_deeds_in(self):
        for entry in fitting_entries():
            for year in YEARS[::3]:
                self.assertIs(entry.lets(KINDS, year), told_lets(entry, KINDS, year))

    def test_equal_by_class_names_and_told_deeds(self):
        told = [("x",), ("y", "a")]
        makers = [lambda: Known(told), lambda: Without(["x", "y"]), lambda: Unknown(), lambda: Noted(["x", "y"], told),
                  lambda: Holding(told), lambda: Known([]), lambda: Without([]), lambda: Holding([]), lambda: Noted([], []),
                  lambda: Without(["y", "x"]), lambda: Noted(["y", "x"], told), lambda: Noted(["x", "y"], told[::-1]),
                  lambda: Known(told[::-1]), lambda: Holding(told[::-1])]
        for place, make in enumerate(makers):
            self.same_only(make, [other() for at, other in enumerate(makers) if at != place])
        self.assertEqual(Known([["x"]]), Known((("x",),)))

    def test_refused(self):
        for names in (*NO_SEQUENCES, ["x", "x"], ("x", "y", "x"), *[["x", name] for name in NO_LABELS]):
            self.refuses((BadEntry, "names"), Without, names)
            self.refuses((BadEntry, "names"), Noted, names, None)
        for deeds in (*NO_SEQUENCES, *[[("x",), deed] for deed in NO_SEQUENCES]):
            self.refuses((BadEntry, "deeds"), Known, deeds)
            self.refuses((BadEntry, "deeds"), Holding, deeds)
            self.refuses((BadEntry, "deeds"), Noted, ["x"], deeds)
        self.assertEqual(Known([[]]).told, ((),))
        self.assertEqual(Holding([[3, None]]).told, ((3, None),))

    def test_keeps_nothing(self):
        self.keeps_nothing(Known, [["x"], ["y", "a"]])
        self.keeps_nothing(Holding, [["x"], ["y", "a"]])
        self.keeps_nothing(Without, ["x", "y"])
        self.keeps_nothing(Noted, ["x", "y"], [["x"], ["y", "a"]])


class WithinTest(Case):
    def test_all_classes_against_all_years(self):
        entries = fitting_entries()
        lots = [{year for year in YEARS if told_lets(entry, KINDS, year)} for entry in entries]
        met = set()
        for one, lot in zip(entries, lots):
            for other, wide in zip(entries, lots):
                self.assertIs(entry_within(KINDS, one, other), lot <= wide, (one.__dict__, other.__dict__))
                met.add((type(one), type(other), lot <= wide))
        self.assertGreaterEqual(len(met), 42)

    def test_written_ones(self):
        for one, other, told in [
                (Known([("x",)]), Unknown(), True), (Unknown(), Holding([]), True), (Unknown(), Holding([("x",)]), False),
                (Without(["x", "y"]), Without(["y"]), True), (Without(["y"]), Without(["x", "y"]), False),
                (Known([("x",), ("y", "a")]), Noted(["y"], [("y", "a")]), True), (Noted(["x", "y", "z"], []), Known([]), True),
                (Known([]), Noted(["x", "y", "z"], []), True), (Holding([("x",), ("x",)]), Holding([("x",)]), True)]:
            self.assertIs(entry_within(KINDS, one, other), told)

    def test_drawn_kinds(self):
        kinds = Kinds([("x", 2)])
        deeds = all_deeds(kinds, ("a", "b"))
        self.assertTrue(entry_within(kinds, Known(deeds), Holding(deeds[::2])))
        self.assertFalse(entry_within(kinds, Known(deeds), Holding(deeds[::-1])))


if __name__ == "__main__":
    unittest.main()
