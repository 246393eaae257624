import unittest

from searchback.clauses import AtLeast, Clause, Is, Put, Zero
from searchback.customs import Custom
from searchback.errors import BadHistory, BadPasts, BadQuestion, BadRings, BadTurns, BadYears, NoKind
from searchback.histories import History
from searchback.kinds import Kinds
from searchback.pasts import Pasts, Rings, pasts_fault, rings_fault
from searchback.questions import Reached, Room, Who
from searchback.walks import answer_of, stand_at
from tests.helpers import NO_SEQUENCES, NO_WHOLES, Case, Odd, clocked_custom, drawn_questions, random_history, searched_customs

KINDS = Kinds([("x", 1), ("y", 0)])
OTHERS = Kinds([("y", 0), ("x", 1)])
EMPTY = History(KINDS)
ANN = History(KINDS, [[("x", "ann")]])
# Nothing but a first record is heard.
KEEPING = Custom(KINDS, ["r"], ["p"], [("k", 1, True)], [
    Clause("x", [Is("p", "nobody")], [Put("p", "first")]), Clause("year", [AtLeast("k", 1)], [Zero("k")])])
BAD_YEARS = (*NO_SEQUENCES, [None], [[None]], [[("z", "a")]], [[("x",)]], [[("x", "A")]], [[("x", "a")], "y"])


class PastsTest(Case):
    def test_attributes(self):
        pasts = Pasts(EMPTY, ANN, [[["x", "bob"]], ()])
        self.assertEqual((pasts.one, pasts.other, pasts.years), (EMPTY, ANN, ((("x", "bob"),), ())))
        self.is_tuple_throughout(pasts.years)
        self.assertEqual(len(pasts), 2)
        one, other = pasts.histories()
        self.assertIs(type(pasts.histories()), tuple)
        self.assertEqual(one, History(KINDS, [[("x", "bob")], []]))
        self.assertEqual(other, History(KINDS, [[("x", "ann")], [("x", "bob")], []]))
        self.assertEqual(Pasts(EMPTY, ANN, ()).histories(), (EMPTY, ANN))
        self.assertEqual(len(Pasts(EMPTY, ANN, ())), 0)

    def test_refused_in_order(self):
        for thing in (None, [[]], KINDS, Odd()):
            self.refuses((BadPasts, "one"), Pasts, thing, None, None)
            self.refuses((BadPasts, "other"), Pasts, EMPTY, thing, None)
        self.refuses((BadPasts, "kinds"), Pasts, EMPTY, History(OTHERS), None)
        for years in BAD_YEARS:
            self.refuses((BadPasts, "years"), Pasts, EMPTY, ANN, years)
        self.refuses((BadPasts, "years"), Pasts, EMPTY, ANN, [()] * 1000001)

    def test_keeps_nothing(self):
        years = [[["x", "bob"]]]
        pasts = Pasts(EMPTY, ANN, years)
        years[0][0][1] = "cy"
        years.append([])
        self.assertEqual(pasts.years, ((("x", "bob"),),))

    def test_too_long_together(self):
        pasts = Pasts(ANN, EMPTY, [()] * 1000000)
        self.assertEqual(len(pasts), 1000000)
        self.refuses((BadHistory, 0, 0, "many"), pasts.histories)


class PastsFaultTest(Case):
    def test_right_ones(self):
        self.assertIsNone(pasts_fault(KEEPING, Pasts(EMPTY, ANN, []), Who("p")))
        self.assertIsNone(pasts_fault(KEEPING, Pasts(EMPTY, ANN, [[("y",)]]), Who("p"), without=["x"]))
        self.assertIsNone(pasts_fault(KEEPING, Pasts(EMPTY, ANN, []), Room(), Who("p")))

    def test_words_in_order(self):
        other = History(OTHERS)
        for thing in (None, (EMPTY, ANN, ()), Odd()):
            self.assertEqual(pasts_fault(KEEPING, thing, Who("p")), "pasts")
        self.assertEqual(pasts_fault(KEEPING, Pasts(other, other, [[("x", "a")]]), Who("p"), without=["x"]), "kinds")
        self.assertEqual(pasts_fault(KEEPING, Pasts(EMPTY, EMPTY, [[], [("y",), ("x", "a")]]), Who("p"), without=("x",)),
                         "without")
        self.assertEqual(pasts_fault(KEEPING, Pasts(EMPTY, EMPTY, [[("x", "a")]]), Who("p")), "alike")
        self.assertEqual(pasts_fault(KEEPING, Pasts(EMPTY, ANN, []), Room()), "alike")
        self.assertEqual(pasts_fault(KEEPING, Pasts(EMPTY, ANN, [[("x", "ann")]]), Who("p")), "alike")
        # What stands ahead of the common years is free.
        self.assertIsNone(pasts_fault(KEEPING, Pasts(EMPTY, ANN, []), Who("p"), without=["x"]))

    def test_against_both_walks(self):
        for seed, custom in searched_customs(150):
            rows = [random_history(7 * seed + part, custom.kinds, 4, 3) for part in range(3)]
            pasts = Pasts(rows[0], rows[1], rows[2].years)
            questions = drawn_questions(seed, custom, 3)
            without = custom.kinds.names[:seed % 2]
            told = None
            if any(deed[0] in without for year in rows[2] for deed in year):
                told = "without"
            elif all(answer_of(custom, pasts.histories()[0], one) == answer_of(custom, pasts.histories()[1], one)
                     for one in questions):
                told = "alike"
            self.assertEqual(pasts_fault(custom, pasts, *questions, without=without), told)

    def test_errors_come_first(self):
        for fault in (pasts_fault, rings_fault):
            self.refuses((BadQuestion, "question"), fault, KEEPING, None, None, without=3)
            self.refuses((BadQuestion, "seat"), fault, KEEPING, None, Room(), Who("q"), without=3)
            self.refuses((BadQuestion, "number"), fault, KEEPING, None, Reached("k", 2))
            self.refuses((NoKind, 3), fault, KEEPING, None, Room(), without=3)
            self.refuses((NoKind, "z"), fault, KEEPING, None, Room(), without=["x", "z", "year"])
            self.refuses((NoKind, "year"), fault, KEEPING, None, Room(), without=["year"])

    def test_of_any_size(self):
        custom = clocked_custom(3, 3, 40, 40, kinds=KINDS.rows)
        self.assertEqual(pasts_fault(custom, Pasts(EMPTY, ANN, []), Room()), "alike")
        self.assertEqual(rings_fault(custom, Rings(EMPTY, ANN, [[]], []), Room()), "one")


class RingsTest(Case):
    def test_attributes(self):
        rings = Rings(EMPTY, ANN, [[["x", "bob"]], []], [[], [["y"]]])
        self.assertEqual((rings.one, rings.other), (EMPTY, ANN))
        self.assertEqual((rings.ring, rings.tail), (((("x", "bob"),), ()), ((), (("y",),))))
        self.is_tuple_throughout(rings.ring)
        self.is_tuple_throughout(rings.tail)
        self.assertEqual(len(rings), 2)

    def test_refused_in_order(self):
        for thing in (None, [[]], KINDS, Odd()):
            self.refuses((BadRings, "one"), Rings, thing, None, None, None)
            self.refuses((BadRings, "other"), Rings, EMPTY, thing, None, None)
        self.refuses((BadRings, "kinds"), Rings, EMPTY, History(OTHERS), None, None)
        for years in (*BAD_YEARS, (), []):
            self.refuses((BadRings, "ring"), Rings, EMPTY, ANN, years, None)
        for years in BAD_YEARS:
            self.refuses((BadRings, "tail"), Rings, EMPTY, ANN, [()], years)
        self.assertEqual(Rings(EMPTY, ANN, [()], ()).tail, ())

    def test_keeps_nothing(self):
        ring, tail = [[["x", "bob"]]], [[["y"]]]
        rings = Rings(EMPTY, ANN, ring, tail)
        ring[0][0][1] = "cy"
        ring.append([])
        tail[0].clear()
        self.assertEqual((rings.ring, rings.tail), (((("x", "bob"),),), ((("y",),),)))

    def test_written(self):
        rings = Rings(EMPTY, ANN, [[("y",)], []], [[("x", "bob")]])
        for turns in (0, 1, 2, 5):
            common = [[("y",)], []] * turns + [[("x", "bob")]]
            told = (History(KINDS, common), History(KINDS, [[("x", "ann")], *common]))
            self.assertEqual(rings.written(turns), told)
            self.assertIs(type(rings.written(turns)), tuple)
            self.assertTrue(told[0].agrees(told[1], rings.common_years(turns)))
        self.assertEqual(len(rings.written(10000)[1]), 20002)

    def test_refused_turns(self):
        rings = Rings(EMPTY, ANN, [()] * 200, [])
        for turns in (*NO_WHOLES, -1, 10001):
            self.refuses((BadTurns, turns), rings.written, turns)
        for turns in (*NO_WHOLES, -1):
            self.refuses((BadTurns, turns), rings.common_years, turns)
            self.refuses((BadYears, turns), rings.turns_for, turns)
        self.refuses((BadHistory, 0, 0, "many"), rings.written, 10000)
        self.refuses((BadHistory, 0, 0, "many"), rings.written, 5000)

    def test_the_longest_histories(self):
        rings = Rings(EMPTY, EMPTY, [()] * 250, [()] * 250)
        self.assertEqual(len(rings.written(3999)[0]), 1000000)
        self.refuses((BadHistory, 0, 0, "many"), rings.written, 4000)
        for one, other in ((ANN, EMPTY), (EMPTY, ANN)):
            self.refuses((BadHistory, 0, 0, "many"), Rings(one, other, [()] * 250, [()] * 250).written, 3999)
        full = Rings(EMPTY, EMPTY, [[("y",)] * 500], [])
        self.assertEqual(full.written(2000)[0].deed_count, 1000000)
        self.refuses((BadHistory, 0, 0, "many"), full.written, 2001)

    def test_common_years_of_any_size(self):
        for ring, tail in ((1, 0), (3, 0), (3, 2), (4, 9)):
            rings = Rings(EMPTY, ANN, [()] * ring, [()] * tail)
            for turns in (0, 1, 7, 10001, 10 ** 40):
                self.assertEqual(rings.common_years(turns), turns * ring + tail)
            for years in (*range(40), 10 ** 40, 10 ** 40 + 1):
                turns = rings.turns_for(years)
                self.assertGreaterEqual(rings.common_years(turns), years)
                self.assertTrue(turns == 0 or rings.common_years(turns - 1) < years)


class RingsFaultTest(Case):
    def test_right_ones(self):
        # The clock begins again at each year's end, so that every year is a ring.
        self.assertIsNone(rings_fault(KEEPING, Rings(EMPTY, ANN, [[]], []), Who("p")))
        self.assertIsNone(rings_fault(KEEPING, Rings(ANN, EMPTY, [[("y",)]], [[]]), Room(), Who("p"), without=["x", "x"]))

    def test_words_in_order(self):
        for thing in (None, Pasts(EMPTY, ANN, []), Odd()):
            self.assertEqual(rings_fault(KEEPING, thing, Who("p")), "rings")
        other = History(OTHERS)
        bob = [[("x", "bob")]]
        self.assertEqual(rings_fault(KEEPING, Rings(other, other, bob, []), Who("p"), without=["x"]), "kinds")
        self.assertEqual(rings_fault(KEEPING, Rings(EMPTY, ANN, bob, []), Who("p"), without=["x"]), "without")
        self.assertEqual(rings_fault(KEEPING, Rings(EMPTY, ANN, [[]], bob), Who("p"), without=["x"]), "without")
        self.assertEqual(rings_fault(KEEPING, Rings(EMPTY, EMPTY, bob, []), Who("p")), "one")
        self.assertEqual(rings_fault(KEEPING, Rings(ANN, EMPTY, bob, []), Who("p")), "other")
        self.assertEqual(rings_fault(KEEPING, Rings(ANN, ANN, bob, []), Who("p")), "alike")
        self.assertEqual(rings_fault(KEEPING, Rings(EMPTY, ANN, [[]], [[("x", "ann")]]), Who("p")), "alike")
        self.assertEqual(rings_fault(KEEPING, Rings(EMPTY, ANN, [[]], []), Room()), "alike")

    def test_the_very_stand(self):
        # The seats change round: behind one year others sit, behind two the same again.
        custom = Custom(KINDS, ["r"], ["p", "q"], [], [
            Clause("y", [], [Put("p", "q"), Put("q", "p")]), Clause("x", [Is("p", "nobody")], [Put("p", "first")])])
        one = History(KINDS, [[("x", "a"), ("y",), ("x", "b")]])
        other = History(KINDS, [[("x", "a"), ("y",), ("x", "c")]])
        self.assertEqual(rings_fault(custom, Rings(one, other, [[("y",)]], []), Who("p")), "one")
        self.assertIsNone(rings_fault(custom, Rings(one, other, [[("y",)], [("y",)]], []), Who("p")))
        self.assertEqual(rings_fault(custom, Rings(one, other, [[("y",)], [("y",)]], [[("y",)]]), Who("p")), "alike")
        self.assertIsNone(rings_fault(custom, Rings(one, other, [[("y",), ("y",)]], [[("y",)]]), Who("q")))

    def test_the_rings_part_any_number_of_times(self):
        rings = Rings(EMPTY, ANN, [[("y",)], []], [[]])
        for turns in (0, 1, 4, 30):
            one, other = rings.written(turns)
            self.assertNotEqual(answer_of(KEEPING, one, Who("p")), answer_of(KEEPING, other, Who("p")))
            self.assertEqual(stand_at(KEEPING, one, len(one) - 1), stand_at(KEEPING, EMPTY))


if __name__ == "__main__":
    unittest.main()
