import random
import unittest

from searchback.alike import alike_customs
from searchback.alikefault import alike_fault
from searchback.amendments import Drop, Limit, PutIn, Swap
from searchback.clauses import AtLeast, Below, Clause, InRoom, Put
from searchback.closed import Alike, Covers, Parting
from searchback.errors import BadAmendment, BadQuestion, TooMany
from searchback.lots import Lots, Verdict, least_lots
from searchback.lotsfault import limit_numbers, lots_fault
from searchback.pools import Pool
from searchback.questions import Filled, Reached, Room, Who
from searchback.searching import Endless, Found, found_fault, search_years, searching
from tests.helpers import NO_WHOLES, Case, Odd, clocked_custom, lively_custom
from tests.test_lots import RECORD, drawn_pools, lapse, recording_custom
from tests.test_pools import told_clash, told_clauses


def told_fault(found):
    """The index and the word, the sentences written down one after another."""
    if [verdict.lot for verdict in found.verdicts] != list(found.pool.lots()):
        return (0, "lots")
    for index, verdict in enumerate(found.verdicts):
        word = told_word(found, verdict)
        if word is not None:
            return (index, word)
    return None


def told_word(found, verdict):
    due = "clash" if told_clash(found.pool, verdict.lot) else None
    clauses = told_clauses(found.pool, verdict.lot) if due is None else ()
    if len(clauses) > 12:
        due = "many"
    word, years, table = verdict.word, verdict.years, verdict.table
    if word not in ("clash", "many", "endless", "far", "unlike", "good") or word == "unlike" and found.same is None:
        return "word"
    if due != (word if word in ("clash", "many") else None):
        return "word"
    if due is not None:
        return "years" if years is not None else "table" if table is not None else None
    amended = found.pool.custom.with_clauses(clauses)
    if found_fault(amended, verdict.found, found.question) is not None:
        return "found"
    if years != (None if isinstance(verdict.found, Endless) else verdict.found.years):
        return "years"
    if word == "endless" and years is not None or word == "far" and (years is None or years <= found.years):
        return "years"
    if word in ("unlike", "good") and (years is None or years > found.years):
        return "years"
    if found.same is None or word not in ("unlike", "good"):
        return "table" if table is not None else None
    if type(table) is not (Parting if word == "unlike" else Alike):
        return "table"
    return "table" if alike_fault(found.pool.custom, amended, (found.same,), table) is not None else None


class LotsFaultTest(Case):
    def setUp(self):
        self.pool = Pool(recording_custom().with_clauses([RECORD] * 11), [
            PutIn(11, lapse(3)), PutIn(11, lapse(2)), Drop(0), Swap(0)])
        self.found = least_lots(self.pool, Who("p"), 1, same=Filled("p"))
        self.verdicts = {verdict.lot: verdict for verdict in self.found}

    def judged(self, wanted, lot, found=None, **changed):
        """Judge the verdicts with some attributes of one of them changed."""
        found = found or self.found
        rows = []
        for verdict in found:
            things = dict(vars(verdict))
            if verdict.lot == lot:
                things.update(changed)
            rows.append(Verdict(**things))
        index = [verdict.lot for verdict in found].index(lot)
        lots = Lots(found.pool, found.question, found.years, found.same, rows)
        self.assertEqual(lots_fault(lots), None if wanted is None else (index, wanted))
        self.assertEqual(told_fault(lots), lots_fault(lots))

    def test_right_verdicts(self):
        self.assertIsNone(lots_fault(self.found))
        words = {lot: verdict.word for lot, verdict in self.verdicts.items()}
        self.assertEqual(words[()], "endless")
        self.assertEqual((words[(0,)], words[(1,)], words[(2,)], words[(3,)]), ("far", "unlike", "endless", "endless"))
        self.assertEqual((words[(0, 1)], words[(2, 3)], words[(0, 1, 2)]), ("many", "clash", "unlike"))
        rows = list(self.found)
        self.assertIsNone(lots_fault(Lots(self.pool, Who("p"), 1, Filled("p"), rows)))

    def test_lots(self):
        rows = list(self.found)
        for bad in (rows[1:], [*rows, rows[-1]], [rows[1], rows[0], *rows[2:]], [], rows[:-1]):
            self.assertEqual(lots_fault(Lots(self.pool, Who("p"), 1, Filled("p"), bad)), (0, "lots"))

    def test_word(self):
        for word in ("", "Good", "least", "found"):
            self.judged("word", (), word=word)
            self.judged("word", (2, 3), word=word)
        for word in ("many", "clash"):
            self.judged("word", (0,), word=word)
        for word in ("many", "endless", "far", "unlike", "good"):
            self.judged("word", (2, 3), word=word)
        for word in ("clash", "endless", "far", "unlike", "good"):
            self.judged("word", (0, 1), word=word)
        other = least_lots(self.pool, Who("p"), 1)
        self.judged("word", (1,), other, word="unlike")
        self.assertIsNone(lots_fault(other))

    def test_found(self):
        for lot in ((), (0,), (1,)):
            for bad in (None, Odd(), (), self.verdicts[(1,) if lot != (1,) else (0,)].found):
                self.judged_found(lot, bad)

    def judged_found(self, lot, bad):
        rows = [verdict if verdict.lot != lot else Verdict(lot, verdict.word, verdict.years, bad, verdict.table)
                for verdict in self.found]
        index = [verdict.lot for verdict in self.found].index(lot)
        lots = Lots(self.pool, Who("p"), 1, Filled("p"), rows)
        self.assertEqual(lots_fault(lots), (index, "found"))

    def test_beside_clash_and_many_what_was_found_is_not_judged(self):
        for lot in ((2, 3), (0, 1)):
            rows = [verdict if verdict.lot != lot else Verdict(lot, verdict.word, None, Odd(), None) for verdict in self.found]
            self.assertIsNone(lots_fault(Lots(self.pool, Who("p"), 1, Filled("p"), rows)))

    def test_years(self):
        self.judged("years", (2, 3), years=0)
        self.judged("years", (0, 1), years=2)
        self.judged("years", (), years=2)
        self.judged("years", (), word="far")
        self.judged("years", (), word="good")
        self.judged("years", (), word="unlike")
        self.judged("years", (0,), years=3)
        self.judged("years", (0,), years=None)
        self.judged("years", (0,), word="endless")
        self.judged("years", (0,), word="good")
        self.judged("years", (0,), word="unlike")
        self.judged("years", (1,), word="far")
        self.judged("years", (1,), word="endless")
        self.judged("years", (1,), years=0)

    def test_table(self):
        table = self.verdicts[(1,)].table
        alike = alike_customs(self.pool.custom, self.pool.custom, Filled("p"))
        for lot in ((), (0,), (2, 3), (0, 1)):
            for bad in (table, alike, Odd(), 0):
                self.judged("table", lot, table=bad)
        for bad in (None, Odd(), alike, Parting(table.history, Room(), table.first, table.second),
                    Parting(table.history, table.question, table.second, table.first)):
            self.judged("table", (1,), table=bad)
        self.judged("table", (1,), word="good")
        self.judged("table", (1,), word="good", table=alike)
        self.judged("table", (1,), word="good", table=None)
        other = least_lots(self.pool, Who("p"), 1)
        self.judged("table", (1,), other, table=table)
        good = least_lots(self.pool, Who("p"), 1, same=Room())
        self.assertEqual(good.verdict_of((1,)).word, "good")
        right = good.verdict_of((1,)).table
        self.judged(None, (1,), good, table=Alike(right.ends[::-1], right.moments[::-1]))
        for bad in (None, table, Covers(right.ends, right.moments), Alike(right.ends[1:], right.moments), Odd()):
            self.judged("table", (1,), good, table=bad)
        self.judged("table", (1,), good, word="unlike")

    def test_two_words_at_once(self):
        self.judged("word", (), word="many", years=3, table=0)
        self.judged("years", (2, 3), years=3, table=0)
        self.judged("years", (1,), years=3, table=0)
        rows = [Verdict(verdict.lot, verdict.word, 99, verdict.found, 0) for verdict in self.found]
        self.assertEqual(lots_fault(Lots(self.pool, Who("p"), 1, Filled("p"), rows)), (0, "years"))
        rows = [Verdict(verdict.lot, verdict.word, 99, None, 0) for verdict in self.found]
        self.assertEqual(lots_fault(Lots(self.pool, Who("p"), 1, Filled("p"), rows)), (0, "found"))
        rows = [*list(self.found)[:3], *[Verdict(verdict.lot, "", 99, None, 0) for verdict in list(self.found)[3:]]]
        self.assertEqual(lots_fault(Lots(self.pool, Who("p"), 1, Filled("p"), rows)), (3, "word"))

    def test_drawn_lots_changed(self):
        met = set()
        for seed, pool, question, years, same in drawn_pools(70, 500):
            found = least_lots(pool, question, years, same=same)
            self.assertIsNone(lots_fault(found))
            rnd = random.Random(seed)
            for _ in range(6):
                rows = [Verdict(*vars(verdict).values()) for verdict in found]
                verdict = rnd.choice(rows)
                choice = rnd.randrange(6)
                if choice == 0:
                    verdict.word = rnd.choice(("clash", "many", "endless", "far", "unlike", "good", "far off"))
                elif choice == 1:
                    verdict.years = rnd.choice((None, 0, 1, 2, 3))
                elif choice == 2:
                    verdict.found = rnd.choice(rows).found
                elif choice == 3:
                    verdict.table = rnd.choice(rows).table
                elif choice == 4:
                    rows.pop()
                else:
                    years = rnd.randint(0, 3)
                lots = Lots(pool, question, years, same, rows)
                fault = lots_fault(lots)
                self.assertEqual(fault, told_fault(lots), seed)
                met.add(None if fault is None else fault[1])
        self.assertEqual(met, {None, "lots", "word", "found", "years", "table"})


class LimitNumbersTest(Case):
    def test_written_numbers(self):
        for cap in (1, 3, 12):
            custom = clocked_custom(1, 1, cap, clauses=[RECORD, lapse(1)])
            self.assertEqual(limit_numbers(custom, 1, 0, Who("p")), tuple(range(cap)))
            self.assertEqual(limit_numbers(custom, 1, 0, Room()), (0,) * cap)
            endless = custom.with_clauses([RECORD, Clause("year", [Below("k", 1)], [])])
            self.assertEqual(limit_numbers(endless, 1, 0, Who("p")), (None,) * cap)

    def test_the_clock_of_the_condition(self):
        custom = clocked_custom(1, 1, 3, 5, clauses=[RECORD, Clause("year", [AtLeast("k", 3), AtLeast("l", 5)], [Put("p", "nobody")])])
        self.assertEqual([len(limit_numbers(custom, 1, index, Filled("p"))) for index in (0, 1)], [3, 5])

    def test_each_limit_alone(self):
        for seed in range(80):
            custom = lively_custom(seed, seats=1)
            for index, clause in enumerate(custom.clauses):
                for place, condition in enumerate(clause.conditions):
                    if isinstance(condition, (AtLeast, Below)):
                        told = []
                        for limit in range(1, custom.clocks[0][1] + 1):
                            amended = Pool(custom, [Limit(index, place, limit)]).amended([0])
                            told.append(search_years(amended, Who("p")))
                        self.assertEqual(limit_numbers(custom, index, place, Who("p")), tuple(told))

    def test_errors_in_order(self):
        big = clocked_custom(1, 2, 40, clauses=[Clause("x", [InRoom("r"), AtLeast("k", 40)])])
        wide = clocked_custom(2, 1, 40, clauses=[Clause("x", [InRoom("r"), AtLeast("k", 40)])])
        for bad in (None, Odd(), 3):
            self.refuses((BadQuestion, "question"), limit_numbers, big, None, None, bad)
        self.refuses((BadQuestion, "seat"), limit_numbers, big, None, None, Who("z"))
        self.refuses((BadQuestion, "clock"), limit_numbers, big, None, None, Reached("z", 1))
        for bad in (*NO_WHOLES, -1, 12):
            self.refuses((BadAmendment, "clause"), limit_numbers, big, bad, None, Room())
        for bad in (*NO_WHOLES, -1, 6):
            self.refuses((BadAmendment, "condition"), limit_numbers, big, 11, bad, Room())
        self.refuses((BadAmendment, "clause"), limit_numbers, big, 1, 5, Room())
        for place in (0, 2, 5):
            self.refuses((BadAmendment, "condition"), limit_numbers, big, 0, place, Room())
        self.refuses((TooMany, 410), limit_numbers, big, 0, 1, Room())
        self.refuses((TooMany, 5 * 164 * 164), limit_numbers, wide, 0, 1, Room())

    def test_found_is_what_searching_returns(self):
        custom = recording_custom()
        self.assertIs(type(searching(custom, Who("p"))), Endless)
        found = least_lots(Pool(custom, [PutIn(1, lapse(3))]), Who("p"), 2).verdict_of((0,)).found
        self.assertIs(type(found), Found)
        self.assertEqual(found.years, 2)


if __name__ == "__main__":
    unittest.main()
