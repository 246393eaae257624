import unittest

from searchback.errors import BadHistory, BadMap, BadYears, OtherKinds
from searchback.histories import MOST_DEEDS, MOST_YEARS, History, map_fault
from searchback.kinds import Kinds
from tests.helpers import NO_LABELS, NO_SEQUENCES, NO_WHOLES, Case

KINDS = Kinds([("grant", 1), ("sells", 2), ("open", 0)])
OTHERS = Kinds([("grant", 1), ("sells", 2), ("open", 1)])
YEARS = [[("sells", "bob", "ann"), ["open"]], [], (("grant", "cy"), ("sells", "ann", "ann"))]
TUPLES = ((("sells", "bob", "ann"), ("open",)), (), (("grant", "cy"), ("sells", "ann", "ann")))


def made():
    return History(KINDS, YEARS)


class HistoryTest(Case):
    def test_attributes(self):
        history = made()
        self.assertEqual(history.kinds, KINDS)
        self.assertEqual(history.years, TUPLES)
        self.is_tuple_throughout(history.years)
        self.assertEqual(len(history), 3)
        self.assertEqual(list(history), list(TUPLES))
        self.assertEqual(history.persons, ("bob", "ann", "cy"))
        self.is_tuple_throughout(history.persons)
        self.assertEqual(history.deed_count, 4)

    def test_the_empty_history(self):
        for history in (History(KINDS), History(KINDS, ()), History(KINDS, [])):
            self.assertEqual(history.years, ())
            self.assertEqual((len(history), list(history), history.persons, history.deed_count), (0, [], (), 0))
        self.assertEqual(History(KINDS, [[], []]).deed_count, 0)

    def test_persons_in_the_order_of_naming(self):
        history = History(KINDS, [[], [("sells", "d", "b")], [("grant", "a"), ("sells", "b", "c")], [("grant", "d")]])
        self.assertEqual(history.persons, ("d", "b", "a", "c"))

    def test_from_years(self):
        self.assertEqual(History.from_years(KINDS, *YEARS), made())
        self.assertEqual(History.from_years(KINDS), History(KINDS))
        self.refuses((BadHistory, 0, 0, "kinds"), History.from_years, None)
        self.refuses((BadHistory, 1, 0, "year"), History.from_years, KINDS, [], None)
        self.refuses((BadHistory, 1, 1, "kind"), History.from_years, KINDS, [], [("open",), ("shut",)])

    def test_first_words(self):
        for thing in (None, "grant 1", [("grant", 1)], Kinds, 3):
            self.refuses((BadHistory, 0, 0, "kinds"), History, thing, 3)
        for thing in NO_SEQUENCES:
            self.refuses((BadHistory, 0, 0, "years"), History, KINDS, thing)

    def test_words_of_years_and_deeds(self):
        for thing in NO_SEQUENCES:
            self.refuses((BadHistory, 2, 0, "year"), History, KINDS, [[], [("open",)], thing, None])
            self.refuses((BadHistory, 1, 1, "deed"), History, KINDS, [[], [("open",), thing, None], None])
        self.refuses((BadHistory, 1, 2, "deed"), History, KINDS, [[], [("open",), ("open",), ()]])
        self.refuses((BadHistory, 0, 1, "kind"), History, KINDS, [[("open",), ("year",)], None])
        self.refuses((BadHistory, 0, 1, "arity"), History, KINDS, [[("open",), ("grant",)], None])
        self.refuses((BadHistory, 0, 0, "person"), History, KINDS, [[("grant", "Ann"), ("grant",)], None])
        self.refuses((BadHistory, 0, 0, "kind"), History, KINDS, [[["open ", 3]]])

    def test_most_years(self):
        self.assertEqual((MOST_YEARS, MOST_DEEDS), (10 ** 6, 10 ** 6))
        self.assertEqual(len(History(KINDS, [()] * MOST_YEARS)), MOST_YEARS)
        self.refuses((BadHistory, 0, 0, "many"), History, KINDS, [()] * (MOST_YEARS + 1))
        self.refuses((BadHistory, 0, 0, "many"), History, KINDS, [None] * (MOST_YEARS + 1))
        self.refuses((BadHistory, 0, 0, "year"), History, KINDS, [None] * MOST_YEARS)

    def test_most_deeds(self):
        half = [("open",)] * (MOST_DEEDS // 2)
        self.assertEqual(History(KINDS, [half, [], half]).deed_count, MOST_DEEDS)
        self.refuses((BadHistory, 0, 0, "many"), History, KINDS, [half, half, [("open",)]])
        self.refuses((BadHistory, 0, 0, "many"), History, KINDS, [half, half, [None]])
        self.refuses((BadHistory, 0, 0, "many"), History, KINDS, [None, half, half, [None]])
        self.refuses((BadHistory, 2, 0, "year"), History, KINDS, [half, half, "open"])

    def test_equal_by_kinds_and_years(self):
        self.same_only(made, [History(KINDS), History(KINDS, YEARS[:2]), History(KINDS, [[], *YEARS]), TUPLES,
                              History(KINDS, [YEARS[0], YEARS[2], []]), History(KINDS, [YEARS[0][::-1], *YEARS[1:]])])
        self.same_only(lambda: History(KINDS), [History(OTHERS), (), [], History(KINDS, [[]])])
        self.assertTrue(History(KINDS, tuple(TUPLES)) == made())

    def test_keeps_nothing(self):
        self.keeps_nothing(lambda years: History(KINDS, years), [[["open"], ["grant", "ann"]], [], [("open",)]])


class PiecesTest(Case):
    def test_first_and_last(self):
        history = made()
        for years in range(4):
            self.assertEqual(history.first(years), History(KINDS, YEARS[:years]))
            self.assertEqual(history.last(years), History(KINDS, YEARS[3 - years:]))
        self.assertIs(type(history.first(2)), History)
        self.assertIsNot(history.first(3), history)
        self.assertEqual(History(KINDS).first(0), History(KINDS))
        self.assertEqual(History(KINDS).last(0), History(KINDS))

    def test_first_and_last_refuse(self):
        history = made()
        for thing in (*NO_WHOLES, -1, 4):
            self.refuses((BadYears, thing), history.first, thing)
            self.refuses((BadYears, thing), history.last, thing)
        self.refuses((BadYears, 1), History(KINDS).last, 1)

    def test_beginnings(self):
        history = made()
        found = list(history.beginnings())
        self.assertEqual(found, [History(KINDS, YEARS[:years]) for years in range(4)])
        self.assertEqual(list(History(KINDS).beginnings()), [History(KINDS)])
        steps = history.beginnings()
        self.assertIs(iter(steps), steps)
        self.assertEqual(next(steps), History(KINDS))

    def test_beginnings_of_a_long_history(self):
        history = History(KINDS, [[("grant", "ann"), ("open",)]] * 2000)
        self.assertEqual(sum(len(part) for part in history.beginnings()), 2000 * 2001 // 2)

    def test_joined(self):
        history, other = made(), History(KINDS, [[("open",)], []])
        self.assertEqual(history.joined(other), History(KINDS, [*YEARS, [("open",)], []]))
        self.assertEqual(other.joined(history), History(KINDS, [[("open",)], [], *YEARS]))
        self.assertEqual(history.joined(History(KINDS)), history)
        self.assertEqual(History(KINDS).joined(history), history)
        self.assertEqual((history, other), (made(), History(KINDS, [[("open",)], []])))

    def test_joined_refuses(self):
        self.refuses((OtherKinds,), made().joined, History(OTHERS))
        half = History(KINDS, [[("open",)] * (MOST_DEEDS // 2)])
        whole = half.joined(half)
        self.assertEqual(whole.deed_count, MOST_DEEDS)
        self.refuses((BadHistory, 0, 0, "many"), whole.joined, made())
        self.assertEqual(len(whole.joined(History(KINDS, [[]]))), 3)
        empty = History(KINDS, [[]] * MOST_YEARS)
        self.assertEqual(len(empty.joined(History(KINDS))), MOST_YEARS)
        self.refuses((BadHistory, 0, 0, "many"), empty.joined, History(KINDS, [[]]))
        self.refuses((OtherKinds,), empty.joined, History(OTHERS, [[]]))

    def test_then_year(self):
        history = made()
        self.assertEqual(history.then_year(), History(KINDS, [*YEARS, []]))
        later = history.then_year(["open"], ("grant", "bob"))
        self.assertEqual(later, History(KINDS, [*YEARS, [("open",), ("grant", "bob")]]))
        self.is_tuple_throughout(later.years)
        self.assertEqual(history, made())
        self.keeps_nothing(history.then_year, ["open"], ["grant", "bob"])
        self.keeps_nothing(lambda *years: History.from_years(KINDS, *years), [["open"]], [], [("grant", "bob")])

    def test_then_year_refuses(self):
        for thing in NO_SEQUENCES:
            self.refuses((BadHistory, 3, 0, "deed"), made().then_year, thing)
        self.refuses((BadHistory, 3, 1, "kind"), made().then_year, ("open",), ("shut",))
        self.refuses((BadHistory, 3, 0, "arity"), made().then_year, ("open", "ann"), ("shut",))
        self.refuses((BadHistory, 0, 0, "person"), History(KINDS).then_year, ("grant", "Ann"))
        full = History(KINDS, [[("open",)] * MOST_DEEDS])
        self.refuses((BadHistory, 0, 0, "many"), full.then_year, ("open",))
        self.refuses((BadHistory, 0, 0, "many"), full.then_year, None)
        self.assertEqual(len(full.then_year()), 2)
        self.refuses((BadHistory, 0, 0, "many"), History(KINDS, [[]] * MOST_YEARS).then_year)

    def test_agrees(self):
        one = History(KINDS, [[("open",)], [("grant", "a")], []])
        other = History(KINDS, [[], [], [("open",)], [("grant", "b")], []])
        self.assertEqual([one.agrees(other, years) for years in range(6)], [True, True, False, False, False, False])
        self.assertEqual([other.agrees(one, years) for years in range(6)], [True, True, False, False, False, False])
        self.assertEqual([one.agrees(one, years) for years in range(5)], [True, True, True, True, False])
        self.assertIs(one.agrees(History(KINDS), 0), True)
        self.assertIs(one.agrees(History(KINDS), 1), False)
        self.assertIs(one.agrees(one.joined(one), 3), True)
        self.assertIs(one.agrees(one, MOST_YEARS), False)

    def test_agrees_refuses(self):
        for thing in (*NO_WHOLES, -1, MOST_YEARS + 1):
            self.refuses((BadYears, thing), made().agrees, made(), thing)
            self.refuses((OtherKinds,), made().agrees, History(OTHERS), thing)


class RenamingTest(Case):
    def test_renamings(self):
        self.assertIsNone(map_fault({}, ()))
        self.assertIsNone(map_fault({"a": "b", "b": "a"}, ["a", "b"]))
        self.assertIsNone(map_fault({"a": "a", "c": None, 3: "a", None: 1, "d": "a"}, ("a",)))

    def test_words(self):
        for thing in (None, 1, "ab", [("a", "b")], (), {"a"}, True):
            self.assertEqual(map_fault(thing, ()), "map")
            self.assertEqual(map_fault(thing, ("a",)), "map")
        self.assertEqual(map_fault({}, ["a"]), "person")
        self.assertEqual(map_fault({"a": "b", "c": "d"}, ("a", "b")), "person")
        for thing in NO_LABELS:
            self.assertEqual(map_fault({"a": "b", "b": thing}, ("a", "b")), "label")
        self.assertEqual(map_fault({"a": "c", "b": "d", "c": "c"}, ("a", "b", "c")), "merged")

    def test_each_word_over_all_persons_before_the_next(self):
        self.assertEqual(map_fault({"a": None}, ("a", "b")), "person")
        self.assertEqual(map_fault({"a": "x", "b": "x", "c": 3}, ("a", "b", "c")), "label")
        self.assertEqual(map_fault({"a": "x", "b": "x"}, ("a", "b", "c")), "person")

    def test_renamed(self):
        names = {"ann": "bob", "bob": "ann", "cy": "dee", "eve": 3}
        told = [[("sells", "ann", "bob"), ("open",)], [], [("grant", "dee"), ("sells", "bob", "bob")]]
        self.assertEqual(made().renamed(names), History(KINDS, told))
        self.assertEqual(names, {"ann": "bob", "bob": "ann", "cy": "dee", "eve": 3})
        self.is_tuple_throughout(made().renamed(names).years)
        self.assertEqual(History(KINDS, [[]]).renamed({}), History(KINDS, [[]]))

    def test_renamed_refuses(self):
        history = made()
        self.refuses((BadMap, "map"), history.renamed, None)
        self.refuses((BadMap, "map"), History(KINDS).renamed, [])
        self.refuses((BadMap, "person"), history.renamed, {"ann": "a", "bob": "b"})
        self.refuses((BadMap, "label"), history.renamed, {"ann": "a", "bob": "b", "cy": "C"})
        self.refuses((BadMap, "merged"), history.renamed, {"ann": "a", "bob": "b", "cy": "a"})
        self.refuses((BadMap, "label"), history.renamed, {"ann": "a", "bob": "a", "cy": "C"})
        self.assertEqual(history, made())


if __name__ == "__main__":
    unittest.main()
