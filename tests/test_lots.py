import itertools
import random
import unittest

from searchback.alike import alike_customs
from searchback.alikefault import alike_fault
from searchback.amendments import Drop, Limit, PutIn, Swap
from searchback.clauses import AtLeast, Clause, Put, Zero
from searchback.closed import Alike, Parting
from searchback.errors import BadLot, BadQuestion, BadYears, NotParted, TooMany
from searchback.lots import Lots, Verdict, least_lots
from searchback.pasts import pasts_fault
from searchback.pools import Pool
from searchback.questions import Filled, Reached, Room, Who
from searchback.searching import Endless, Found, found_fault, search_years
from tests.helpers import (
    NO_SEQUENCES, NO_WHOLES, Case, Odd, clocked_custom, drawn_questions, fading_custom, guarded_custom, lively_custom,
)
from tests.test_pools import drawn_pool, told_clash, told_clauses

RECORD = Clause("x", [], [Put("p", "first"), Zero("k")])


def lapse(number):
    return Clause("year", [AtLeast("k", number)], [Put("p", "nobody")])


def recording_custom():
    """Records without a lapse: who holds the thing is endless."""
    return clocked_custom(1, 1, 3, clauses=[RECORD])


def drawn_pools(many, first=0):
    """Pools, each with a number for more choices, a question, a limit of years and perhaps another question."""
    for seed in range(first, first + many):
        custom = (fading_custom, lively_custom, guarded_custom)[seed % 3](seed, cap=2)
        asked = drawn_questions(seed, custom, 2)
        rnd = random.Random(seed)
        yield seed, drawn_pool(seed, custom), asked[0], rnd.choice((0, 1, 2, 3, 200)), asked[-1] if seed % 2 else None


def told_word(pool, lot, question, years, same):
    """The word of a lot alone, and its number."""
    if told_clash(pool, lot) is not None:
        return "clash", None
    clauses = told_clauses(pool, lot)
    if len(clauses) > 12:
        return "many", None
    custom = pool.custom.with_clauses(clauses)
    number = search_years(custom, question)
    if number is None or number > years:
        return ("endless" if number is None else "far"), number
    if same is not None and isinstance(alike_customs(pool.custom, custom, same), Parting):
        return "unlike", number
    return "good", number


class LeastLotsTest(Case):
    def test_a_written_pool(self):
        pool = Pool(recording_custom(), [PutIn(1, lapse(3)), PutIn(1, lapse(2)), Drop(0)])
        found = least_lots(pool, Who("p"), 1)
        self.assertEqual([(verdict.lot, verdict.word, verdict.years) for verdict in found], [
            ((), "endless", None), ((0,), "far", 2), ((1,), "good", 1), ((2,), "good", 0), ((0, 1), "good", 1),
            ((0, 2), "good", 0), ((1, 2), "good", 0), ((0, 1, 2), "good", 0)])
        self.assertEqual(found.good, ((1,), (2,), (0, 1), (0, 2), (1, 2), (0, 1, 2)))
        self.assertEqual(found.least, ((1,), (2,)))
        self.assertEqual((found.pool, found.question, found.years, found.same), (pool, Who("p"), 1, None))
        self.assertEqual((len(found), list(found), type(found.verdicts)), (8, list(found.verdicts), tuple))
        # Without the record the thing stands otherwise; so it does where it lapses.
        found = least_lots(pool, Who("p"), 2, same=Filled("p"))
        self.assertEqual([verdict.word for verdict in found], ["endless"] + ["unlike"] * 7)
        self.assertEqual((found.good, found.least), ((), ()))
        found = least_lots(pool, Who("p"), 2, same=Reached("k", 3))
        self.assertEqual([verdict.word for verdict in found], ["endless", "good", "good", "unlike", "good"] + ["unlike"] * 3)
        self.assertEqual(found.least, ((0,), (1,)))

    def test_a_custom_that_needs_no_amendment(self):
        custom = recording_custom().with_clauses([RECORD, lapse(3)])
        pool = Pool(custom, [Drop(1), Limit(1, 0, 1), Swap(0)])
        found = least_lots(pool, Who("p"), 2, same=Who("p"))
        self.assertEqual(found.verdict_of(()).word, "good")
        self.assertEqual(found.least, ((),))
        self.assertEqual([verdict.word for verdict in found], [
            "good", "endless", "unlike", "good", "clash", "clash", "clash", "clash"])
        # A lot with a good part may be endless.
        self.assertEqual(found.verdict_of([0]).found.__class__, Endless)

    def test_clash_and_many(self):
        full = recording_custom().with_clauses([RECORD] * 11)
        pool = Pool(full, [PutIn(0, lapse(3)), PutIn(11, lapse(2)), Drop(3), Swap(3)])
        found = least_lots(pool, Who("p"), 200)
        words = {verdict.lot: verdict.word for verdict in found}
        self.assertEqual([lot for lot, word in words.items() if word == "many"], [(0, 1), (0, 1, 3)])
        self.assertEqual([lot for lot, word in words.items() if word == "clash"], [(2, 3), (0, 2, 3), (1, 2, 3), (0, 1, 2, 3)])
        for lot, word in words.items():
            verdict = found.verdict_of(lot)
            if word in ("clash", "many"):
                self.assertEqual((verdict.years, verdict.found, verdict.table), (None, None, None))

    def test_each_lot_alone(self):
        met = set()
        for seed, pool, question, years, same in drawn_pools(120):
            found = least_lots(pool, question, years, same=same)
            self.assertEqual([verdict.lot for verdict in found], list(pool.lots()))
            for verdict in found:
                word, number = told_word(pool, verdict.lot, question, years, same)
                self.assertEqual((verdict.word, verdict.years), (word, number), seed)
                met.add(word)
                if word in ("clash", "many"):
                    self.assertIsNone(verdict.found)
                    self.assertIsNone(verdict.table)
                    continue
                custom = pool.amended(verdict.lot)
                self.assertIs(type(verdict.found), Endless if word == "endless" else Found)
                self.assertIsNone(found_fault(custom, verdict.found, question))
                if same is None or word not in ("good", "unlike"):
                    self.assertIsNone(verdict.table)
                else:
                    self.assertIs(type(verdict.table), Alike if word == "good" else Parting)
                    self.assertIsNone(alike_fault(pool.custom, custom, [same], verdict.table))
                self.assertIs(found.verdict_of(list(verdict.lot)), verdict)
            self.check_least(found)
        self.assertEqual(met, {"clash", "endless", "far", "unlike", "good"})

    def check_least(self, found):
        """The good lots of which no proper part is good."""
        good = [verdict.lot for verdict in found if verdict.word == "good"]
        self.assertEqual(found.good, tuple(good))
        least = []
        for lot in good:
            parts = [part for many in range(len(lot)) for part in itertools.combinations(lot, many)]
            if not any(part in good for part in parts):
                least.append(lot)
        self.assertEqual(found.least, tuple(least))
        self.is_tuple_throughout(found.good)
        self.assertIs(found.least == ((),), found.verdict_of(()).word == "good")

    def test_pasts(self):
        met = set()
        for seed, pool, question, years, same in drawn_pools(60, 200):
            found = least_lots(pool, question, years, same=same)
            for verdict in found:
                if verdict.word in ("endless", "far"):
                    pasts = found.pasts_of(list(verdict.lot) if seed % 2 else verdict.lot)
                    self.assertEqual(len(pasts), years)
                    self.assertIsNone(pasts_fault(pool.amended(verdict.lot), pasts, question))
                    met.add(verdict.word)
                else:
                    self.refuses((NotParted, verdict.lot), found.pasts_of, verdict.lot)
                    self.refuses((NotParted, verdict.lot), found.pasts_of, list(verdict.lot))
        self.assertEqual(met, {"endless", "far"})

    def test_the_greatest_limits(self):
        pool = Pool(recording_custom(), [PutIn(1, lapse(3))])
        found = least_lots(pool, Who("p"), 200)
        self.assertEqual([verdict.word for verdict in found], ["endless", "good"])
        self.assertEqual(len(found.pasts_of(())), 200)
        found = least_lots(pool, Who("p"), 0)
        self.assertEqual([verdict.word for verdict in found], ["endless", "far"])
        self.assertEqual([len(found.pasts_of(lot)) for lot in ((), (0,))], [0, 0])


class ErrorsTest(Case):
    def test_least_lots(self):
        big, wide = [Pool(clocked_custom(*shape, clauses=[Clause("x")]), [Drop(0)]) for shape in ((1, 2, 40), (2, 1, 40))]
        for bad in (None, Odd(), 3, "Who"):
            self.refuses((BadQuestion, "question"), least_lots, big, bad, None, same=Who("z"))
        for bad in (Odd(), 3, "Who", (), False, 0):
            self.refuses((BadQuestion, "question"), least_lots, big, Room(), None, same=bad)
        self.refuses((BadQuestion, "seat"), least_lots, big, Who("z"), None, same=Reached("k", 40))
        self.refuses((BadQuestion, "clock"), least_lots, big, Room(), None, same=Reached("z", 1))
        for bad in (*NO_WHOLES, -1, 201):
            self.refuses((BadYears, bad), least_lots, big, Room(), bad, same=Room())
        for years in (0, 200):
            self.refuses((TooMany, 410), least_lots, big, Room(), years, same=Room())
            self.refuses((TooMany, 5 * 164 * 164), least_lots, wide, Room(), years)

    def test_lots_that_are_looked_up(self):
        pool = Pool(recording_custom(), [PutIn(1, lapse(3)), Drop(0)])
        found = least_lots(pool, Who("p"), 2)
        bad = [*NO_SEQUENCES, (2,), (-1,), (0, 0), (1, 0), *[(thing,) for thing in NO_WHOLES]]
        for lot in bad:
            self.refuses((BadLot, "lot"), found.verdict_of, lot)
            self.refuses((BadLot, "lot"), found.pasts_of, lot)

    def test_results_keep_their_arguments(self):
        verdict = Verdict((0,), "good", 3, "found", "table")
        self.assertEqual((verdict.lot, verdict.word, verdict.years, verdict.found, verdict.table), ((0,), "good", 3, "found", "table"))
        self.same_only(lambda: Verdict((0,), "good", 3, "found", "table"), [
            Verdict((1,), "good", 3, "found", "table"), Verdict((0,), "far", 3, "found", "table"),
            Verdict((0,), "good", None, "found", "table")])
        self.assertEqual(Verdict((0,), "good", 3, None, None), verdict)
        rows = [verdict]
        found = Lots(1, 2, 3, 4, rows)
        rows.clear()
        self.assertEqual((found.pool, found.question, found.years, found.same, found.verdicts), (1, 2, 3, 4, (verdict,)))


if __name__ == "__main__":
    unittest.main()
