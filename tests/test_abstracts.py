import itertools
import unittest

from searchback.abstracts import MOST_ENTRIES, MOST_NAMED, Abstract, abstract_of
from searchback.entries import Holding, Known, Noted, Unknown, Without
from searchback.errors import BadAbstract, BadYears, OtherKinds
from searchback.histories import History
from searchback.kinds import Kinds
from tests.helpers import NO_SEQUENCES, NO_WHOLES, Case, Odd

KINDS = Kinds([("x", 1), ("y", 0)])
OTHERS = Kinds([("y", 0), ("x", 1)])
A, B, Y = ("x", "a"), ("x", "b"), ("y",)
YEARS = [(), (A,), (B,), (Y,), (A, Y), (Y, A), (A, B), (Y, Y), (A, Y, B)]
HISTORIES = [History(KINDS, years) for many in range(4) for years in itertools.product(YEARS, repeat=many)]
ENTRIES = (Known([]), Known([A]), Unknown(), Without(["x"]), Noted(["x"], [A]), Holding([A]))


def named(*persons):
    return Known([("x", person) for person in persons])


class AbstractTest(Case):
    def test_attributes(self):
        self.assertEqual((MOST_ENTRIES, MOST_NAMED), (200, 8))
        entries = [Known([B, A]), Unknown(), Holding([("x", "c"), A])]
        made = Abstract(KINDS, entries)
        self.assertEqual((made.kinds, made.years, made.whole, made.persons), (KINDS, tuple(entries), False, ("b", "a", "c")))
        self.assertIs(type(made.years), tuple)
        self.assertEqual((len(made), list(made)), (3, entries))
        self.assertIs(Abstract(KINDS, (), whole=True).whole, True)
        self.assertEqual((Abstract(KINDS, ()).years, Abstract(KINDS, ()).persons), ((), ()))
        self.assertEqual(Abstract.from_entries(KINDS, *entries), made)
        self.assertEqual(Abstract.from_entries(KINDS), Abstract(KINDS, []))

    def test_equal_by_kinds_years_and_whole(self):
        self.same_only(lambda: Abstract(KINDS, [Known([A]), Unknown()]), [
            Abstract(OTHERS, [Known([A]), Unknown()]), Abstract(KINDS, [Known([A]), Unknown()], whole=True),
            Abstract(KINDS, [Known([A])]), Abstract(KINDS, [Unknown(), Known([A])]), Abstract(KINDS, [Holding([A]), Unknown()])])

    def test_refused_in_order(self):
        for thing in (None, [("x", 1)], Odd()):
            self.refuses((BadAbstract, 0, "kinds"), Abstract, thing, None, whole=None)
        for thing in (None, 0, 1, "", [], Odd()):
            self.refuses((BadAbstract, 0, "whole"), Abstract, KINDS, None, whole=thing)
        for thing in NO_SEQUENCES:
            self.refuses((BadAbstract, 0, "years"), Abstract, KINDS, thing)
        self.refuses((BadAbstract, 0, "many"), Abstract, KINDS, [None] * 201)
        self.assertEqual(len(Abstract(KINDS, [Unknown()] * 200)), 200)
        self.assertEqual(len(Abstract(KINDS, [])), 0)

    def test_refused_entries(self):
        for thing in (None, (), "x", A, Unknown, Odd()):
            self.refuses((BadAbstract, 1, "entry"), Abstract, KINDS, [Unknown(), thing, None])
        for entry in (Without(["x", "z"]), Noted(["z"], [()]), Without(["year"])):
            self.refuses((BadAbstract, 1, "names"), Abstract, KINDS, [Unknown(), entry, None])
        for word, deed in [("deed", ()), ("kind", ("z",)), ("kind", (3, "a")), ("arity", ("x",)), ("arity", ("y", "a")),
                           ("person", ("x", "A")), ("person", ("x", None))]:
            for entry in (Known([A, deed, ()]), Holding([A, deed]), Noted(["x", "y"], [A, deed])):
                self.refuses((BadAbstract, 1, word), Abstract, KINDS, [Unknown(), entry, None])
        self.refuses((BadAbstract, 1, "noted"), Abstract, KINDS, [Unknown(), Noted(["x"], [A, Y, ()]), None])
        self.refuses((BadAbstract, 0, "noted"), Abstract, KINDS, [Noted([], [A])])
        # Deed by deed: the fault of the first deed comes ahead, whatever the later ones have.
        self.refuses((BadAbstract, 0, "noted"), Abstract, KINDS, [Noted(["x"], [Y, ("z",)])])
        self.refuses((BadAbstract, 0, "kind"), Abstract, KINDS, [Noted(["x"], [("z",), Y])])
        self.refuses((BadAbstract, 0, "names"), Abstract, KINDS, [Noted(["x", "z"], [("z",), Y])])

    def test_nine_persons(self):
        eight = "abcdefgh"
        self.assertEqual(len(Abstract(KINDS, [named(*eight)]).persons), 8)
        self.assertEqual(len(Abstract(KINDS, [named(person) for person in eight * 3]).persons), 8)
        self.refuses((BadAbstract, 0, "persons"), Abstract, KINDS, [named(*eight, "i")])
        self.refuses((BadAbstract, 2, "persons"), Abstract, KINDS, [named(*eight), Unknown(), named("a", "i"), named("k")])
        self.refuses((BadAbstract, 8, "persons"), Abstract, KINDS, [named(person) for person in "abcdefghijk"])
        # Last: all entries are looked at before.
        self.refuses((BadAbstract, 2, "entry"), Abstract, KINDS, [named(*eight), named("i"), None])

    def test_keeps_nothing(self):
        entries = [Unknown(), Known([A])]
        made = Abstract(KINDS, entries)
        entries.clear()
        self.assertEqual(len(made), 2)


class MadeTest(Case):
    def test_then_year(self):
        made = Abstract(KINDS, [Known([A])])
        self.assertEqual(made.then_year(Unknown()), Abstract(KINDS, [Known([A]), Unknown()]))
        self.assertEqual(made.years, (Known([A]),))
        self.assertEqual(Abstract(KINDS, [], whole=True).then_year(Known([])), Abstract(KINDS, [Known([])], whole=True))
        self.refuses((BadAbstract, 1, "entry"), made.then_year, None)
        self.refuses((BadAbstract, 1, "names"), made.then_year, Without(["z"]))
        self.refuses((BadAbstract, 0, "many"), Abstract(KINDS, [Unknown()] * 200).then_year, Unknown())
        self.refuses((BadAbstract, 1, "persons"), made.then_year, named(*"bcdefghi"))

    def test_last(self):
        entries = [Known([A]), Unknown(), Without(["x"])]
        for whole in (False, True):
            made = Abstract(KINDS, entries, whole=whole)
            for years in range(4):
                told = Abstract(KINDS, entries[3 - years:], whole=whole and years == 3)
                self.assertEqual(made.last(years), told)
            for years in (*NO_WHOLES, -1, 4):
                self.refuses((BadYears, years), made.last, years)
        self.assertEqual(Abstract(KINDS, [], whole=True).last(0).whole, True)

    def test_hidden(self):
        entries = [Known([A]), Unknown(), Without(["x"])]
        for whole in (False, True):
            made = Abstract(KINDS, entries, whole=whole)
            self.assertEqual(made.hidden(), made)
            self.assertEqual(made.hidden(0, 0), Abstract(KINDS, [Unknown(), *entries[1:]], whole=whole))
            self.assertEqual(made.hidden(2, 1, 0), Abstract(KINDS, [Unknown()] * 3, whole=whole))
            self.assertEqual(made.years, tuple(entries))
            for year in (*NO_WHOLES, -1, 3):
                self.refuses((BadYears, year), made.hidden, 0, year, None)
        self.refuses((BadYears, 0), Abstract(KINDS, []).hidden, 0)

    def test_abstract_of(self):
        history = History(KINDS, [[A], [], [Y, B]])
        self.assertEqual(abstract_of(history), Abstract(KINDS, [Known([A]), Known([]), Known([Y, B])]))
        self.assertEqual(abstract_of(history, None), abstract_of(history, 3))
        self.assertEqual(abstract_of(history, 1), Abstract(KINDS, [Known([Y, B])]))
        self.assertEqual(abstract_of(history, 0), Abstract(KINDS, []))
        for years in [one for one in (*NO_WHOLES, -1, 4) if one is not None]:
            self.refuses((BadYears, years), abstract_of, history, years)
        self.refuses((BadAbstract, 0, "many"), abstract_of, History(KINDS, [()] * 201))
        self.assertEqual(len(abstract_of(History(KINDS, [()] * 201), 200)), 200)
        nine = History(KINDS, [[("x", person)] for person in "abcdefghi"])
        self.refuses((BadAbstract, 8, "persons"), abstract_of, nine)
        self.assertEqual(abstract_of(nine, 8).persons, tuple("bcdefghi"))


class FillsTest(Case):
    def test_written_ones(self):
        made = Abstract(KINDS, [Known([A]), Without(["x"])])
        whole = Abstract(KINDS, [Known([A]), Without(["x"])], whole=True)
        for years, told, told_whole in [
                ([[A], []], True, True), ([[A], [Y]], True, True), ([[B], [A], [Y, Y]], True, False), ([[A]], False, False),
                ([[A], [A]], False, False), ([[B], []], False, False), ([], False, False)]:
            history = History(KINDS, years)
            self.assertIs(made.fills(history), told)
            self.assertIs(whole.fills(history), told_whole)
        for years in range(3):
            self.assertIs(Abstract(KINDS, []).fills(History(KINDS, [[]] * years)), True)
            self.assertIs(Abstract(KINDS, [], whole=True).fills(History(KINDS, [[]] * years)), years == 0)

    def test_against_the_entries(self):
        for entries in itertools.product(ENTRIES, repeat=2):
            made = Abstract(KINDS, entries)
            for history in HISTORIES[::5]:
                last = history.years[-2:]
                told = len(last) == 2 and all(entry.lets(KINDS, year) for entry, year in zip(entries, last))
                self.assertIs(made.fills(history), told)
                self.assertIs(Abstract(KINDS, entries, whole=True).fills(history), told and len(history) == 2)

    def test_other_kinds(self):
        self.refuses((OtherKinds,), Abstract(KINDS, []).fills, History(OTHERS))
        self.refuses((OtherKinds,), Abstract(KINDS, []).is_within, Abstract(OTHERS, []))


class WithinTest(Case):
    def test_against_all_short_histories(self):
        rows = []
        for many in range(3):
            for entries in itertools.product(ENTRIES[:: 1 if many < 2 else 2], repeat=many):
                rows += [Abstract(KINDS, entries, whole=whole) for whole in (False, True)]
        lots = [{place for place, history in enumerate(HISTORIES) if made.fills(history)} for made in rows]
        met = set()
        for one, lot in zip(rows, lots):
            for other, wide in zip(rows, lots):
                self.assertIs(one.is_within(other), lot <= wide, (one.years, other.years, one.whole, other.whole))
                met.add((len(one) - len(other), one.whole, other.whole, lot <= wide))
        self.assertGreaterEqual(len(met), 20)

    def test_written_ones(self):
        known, unknown = Known([A]), Unknown()
        for one, other, told in [
                (([known], False), ([unknown], False), True), (([known, known], False), ([unknown], False), True),
                (([known], False), ([unknown, unknown], False), False), (([known], True), ([unknown], True), True),
                (([known], False), ([unknown], True), False), (([known, known], True), ([unknown], True), False),
                (([known, unknown], True), ([unknown], False), True), (([], True), ([], False), True),
                (([], False), ([], True), False), (([unknown], False), ([], False), True),
                (([unknown, known], False), ([known], False), True), (([known, unknown], False), ([known], False), False)]:
            made = [Abstract(KINDS, entries, whole=whole) for entries, whole in (one, other)]
            self.assertIs(made[0].is_within(made[1]), told)


if __name__ == "__main__":
    unittest.main()
