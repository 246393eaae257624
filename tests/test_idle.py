import random
import unittest

from searchback.alike import alike_customs
from searchback.clauses import AtLeast, Below, Clause, Halt, InRoom, Is, NotInRoom, Put, Run, SamePerson, ToRoom, Zero
from searchback.closed import Alike
from searchback.customs import Custom
from searchback.errors import BadQuestion, NoClause, TooMany
from searchback.idle import acting_history, dropped, exchanged, idle_clauses, spare_clauses, trimmed
from searchback.kinds import Kinds
from searchback.questions import Reached, Room, Who
from searchback.scenes import never_acting
from searchback.searching import search_years
from searchback.stand import Stand
from searchback.walks import steps_of
from tests.helpers import (
    NO_WHOLES, Case, Odd, all_deeds, clocked_custom, drawn_questions, fading_custom, guarded_custom, lively_custom,
    plain_custom, random_custom, random_history, told_acting, told_after, told_coming, told_persons, told_steps,
    told_ticked, wide_custom,
)


def drawn_customs(many, most=120):
    for seed in range(many):
        custom = (lively_custom, random_custom, guarded_custom, random_custom, fading_custom)[seed % 5](seed)
        if custom.most_stands <= most:
            yield seed, custom


def told_first_years(custom):
    """For each clause that acts the least number of years of a history in which it does."""
    found = {}
    for years, (_, moments) in enumerate(told_coming(custom)[0]):
        for code in moments:
            stand = Stand(*code)
            persons = told_persons(stand)
            names = (*persons, *[label for label in "abcdefgh" if label not in persons][:2])
            for deed in all_deeds(custom.kinds, names):
                found.setdefault(told_acting(custom, stand, deed), years + 1)
            found.setdefault(told_acting(custom, told_ticked(custom, stand), None), years + 1)
    found.pop(None, None)
    return found


class IdleTest(Case):
    def test_written_customs(self):
        self.assertEqual(idle_clauses(plain_custom()), ())
        self.assertEqual([len(acting_history(plain_custom(), index)) for index in range(3)], [1, 1, 3])
        kinds = [("x", 1), ("y", 2), ("z", 0)]
        custom = clocked_custom(3, 1, 3, kinds=kinds, clauses=[
            Clause("x", [InRoom("t")], []), Clause("x", [], [Put("p", "first"), ToRoom("s")]), Clause("x", [Is("p", "first")], []),
            Clause("y", [SamePerson(), AtLeast("k", 2)], [Zero("k")]), Clause("year", [AtLeast("k", 3), InRoom("s")], [Halt("k")]),
            Clause("z", [AtLeast("k", 3), Below("k", 3)], []), Clause("year", [InRoom("t")], [ToRoom("t")])])
        self.assertEqual(idle_clauses(custom), (0, 2, 5, 6))
        self.assertEqual([None if history is None else len(history) for history in
                          [acting_history(custom, index) for index in range(7)]], [None, 1, None, 3, 3, None, None])
        self.assertEqual(trimmed(custom).clauses, tuple([custom.clauses[index] for index in (1, 3, 4)]))
        self.assertEqual(idle_clauses(clocked_custom(1, 1)), ())

    def test_the_stand_that_comes_first_is_not_the_first_one_in_order(self):
        custom = clocked_custom(2, 1, 3, kinds=[("x", 1), ("z", 0)], clauses=[
            Clause("x", [], [Put("p", "first"), ToRoom("s")]), Clause("z", [InRoom("s")], []),
            Clause("year", [AtLeast("k", 3), Is("p", "nobody")], [ToRoom("s")])])
        self.assertEqual([len(acting_history(custom, index)) for index in range(3)], [1, 1, 3])
        # Here it is the other way round.
        custom = custom.with_clauses([Clause("x", [AtLeast("k", 2)], [Put("p", "first"), ToRoom("s")]), custom.clauses[1],
                                      Clause("year", [], [ToRoom("s")])])
        self.assertEqual([len(acting_history(custom, index)) for index in range(3)], [3, 2, 1])

    def test_an_act_without_changes_counts(self):
        custom = clocked_custom(1, 1, clauses=[Clause("x"), Clause("year"), Clause("year")])
        self.assertEqual(idle_clauses(custom), (2,))
        self.assertEqual([len(acting_history(custom, index)) for index in (0, 1)], [1, 1])

    def test_against_a_plain_search(self):
        met = set()
        for seed, custom in drawn_customs(150):
            told = told_first_years(custom)
            idle = idle_clauses(custom)
            self.assertEqual(idle, tuple([index for index in range(len(custom)) if index not in told]), seed)
            self.assertLessEqual(set(never_acting(custom)), set(idle))
            for index in range(len(custom)):
                history = acting_history(custom, index)
                if index in idle:
                    self.assertIsNone(history)
                    continue
                self.assertEqual(len(history), told[index], seed)
                acting = [row[0] for row in told_steps(custom, history) if row[3] == index]
                self.assertEqual(acting[-1:], [len(history) - 1])
                self.assertEqual(history.kinds, custom.kinds)
                self.is_tuple_throughout(history.years)
                met.add(len(history))
        self.assertLessEqual({1, 2, 3, 4}, met)

    def test_against_all_short_histories(self):
        for seed in range(0, 60, 5):
            custom = lively_custom(seed, seats=1)
            deeds = all_deeds(custom.kinds, ("a", "b"))
            acting, ends = set(), {custom.start.code}
            for years in range(1, 4):
                moments = set(ends)
                for _ in range(3):
                    moments |= {told_after(custom, Stand(*code), deed).code for code in moments for deed in deeds}
                steps = {told_acting(custom, Stand(*code), deed) for code in moments for deed in deeds}
                steps |= {told_acting(custom, told_ticked(custom, Stand(*code)), None) for code in moments}
                acting |= steps - {None}
                for index in acting:
                    self.assertLessEqual(len(acting_history(custom, index)), years)
                for index in range(len(custom)):
                    history = acting_history(custom, index)
                    self.assertTrue(index in acting or history is None or len(history) > years, seed)
                ends = {told_after(custom, told_ticked(custom, Stand(*code)), None).code for code in moments}

    def test_random_histories_let_no_idle_clause_act(self):
        for seed, custom in drawn_customs(60):
            idle = idle_clauses(custom)
            for at in range(4):
                for step in steps_of(custom, random_history(seed * 7 + at, custom.kinds, 8, 6)):
                    self.assertNotIn(step.clause, idle)

    def test_errors_in_order(self):
        big, small = clocked_custom(1, 2, 40, clauses=[Clause("x")]), clocked_custom(1, 2, 39, clauses=[Clause("x")])
        for bad in (*NO_WHOLES, -1, 1, 99):
            self.refuses((NoClause, bad), acting_history, big, bad)
        self.refuses((TooMany, 410), acting_history, big, 0)
        self.refuses((TooMany, 410), idle_clauses, big)
        self.refuses((TooMany, 410), trimmed, big)
        self.assertEqual((idle_clauses(small), len(acting_history(small, 0)), trimmed(small)), ((), 1, small))
        most = Custom(Kinds([("x", 1)]), ["r"], ["p"], [("k", 4, True), ("l", 9, False)], [Clause("x", [], [Run("l")])])
        self.assertEqual((most.most_stands, idle_clauses(most)), (400, ()))
        self.refuses((NoClause, 0), acting_history, clocked_custom(1, 1), 0)


class ChangedCustomsTest(Case):
    def test_dropped_and_exchanged(self):
        custom = wide_custom()
        rows = custom.clauses
        for index in range(len(rows)):
            self.assertEqual(dropped(custom, index), custom.with_clauses([*rows[:index], *rows[index + 1:]]))
        for index in range(len(rows) - 1):
            changed = [*rows]
            changed[index:index + 2] = [rows[index + 1], rows[index]]
            self.assertEqual(exchanged(custom, index), custom.with_clauses(changed))
        self.assertEqual(custom.clauses, rows)
        for bad in (*NO_WHOLES, -1, len(rows), len(rows) + 5):
            self.refuses((NoClause, bad), dropped, custom, bad)
            self.refuses((NoClause, bad), exchanged, custom, bad)
        self.refuses((NoClause, len(rows) - 1), exchanged, custom, len(rows) - 1)
        none = custom.with_clauses([])
        self.refuses((NoClause, 0), dropped, none, 0)
        self.refuses((NoClause, 0), exchanged, none, 0)
        self.refuses((NoClause, 0), exchanged, custom.with_clauses(rows[:1]), 0)
        self.assertEqual(dropped(custom.with_clauses(rows[:1]), 0), none)

    def test_a_trimmed_custom_stands_alike(self):
        trims = 0
        for seed, custom in drawn_customs(100):
            trim = trimmed(custom)
            self.assertEqual(idle_clauses(trim), ())
            trims += len(trim) < len(custom)
            history = random_history(seed, custom.kinds, 8, 5)
            self.assertEqual([step.stand for step in steps_of(custom, history)], [step.stand for step in steps_of(trim, history)])
            asked = drawn_questions(seed, custom, 2)
            self.assertIs(type(alike_customs(custom, trim, *asked)), Alike)
            self.assertIs(type(alike_customs(custom, trim)), Alike)
            if seed % 4 == 0:
                self.assertEqual(search_years(custom, *asked), search_years(trim, *asked))
        self.assertGreater(trims, 30)

    def test_neighbours_of_unlike_kinds_can_be_exchanged(self):
        exchanges = 0
        for seed, custom in drawn_customs(60):
            for index in range(len(custom) - 1):
                if custom.clauses[index].kind != custom.clauses[index + 1].kind:
                    self.assertIs(type(alike_customs(custom, exchanged(custom, index))), Alike)
                    exchanges += 1
        self.assertGreater(exchanges, 50)


class SpareTest(Case):
    def test_written_customs(self):
        self.assertEqual(spare_clauses(plain_custom()), ())
        self.assertEqual(spare_clauses(plain_custom(), Room()), (0, 1, 2))
        # Two equal clauses are spare each, and not together.
        custom = clocked_custom(2, 1, kinds=[("x", 1)], clauses=[
            Clause("x", [], [Put("p", "first")]), Clause("x", [], [Put("p", "first")]), Clause("year", [NotInRoom("r")], [])])
        self.assertEqual(spare_clauses(custom), (0, 1, 2))
        self.assertNotIsInstance(alike_customs(custom, custom.with_clauses(custom.clauses[2:])), Alike)

    def test_each_alone(self):
        met = set()
        for seed, custom in drawn_customs(80):
            asked = drawn_questions(seed, custom, 2) if seed % 3 else []
            found = spare_clauses(custom, *asked)
            told = [index for index in range(len(custom))
                    if isinstance(alike_customs(custom, dropped(custom, index), *asked), Alike)]
            self.assertEqual(found, tuple(told))
            self.assertLessEqual(set(idle_clauses(custom)), set(found))
            met.add(set(idle_clauses(custom)) < set(found))
        self.assertEqual(met, {True, False})

    def test_errors_in_order(self):
        big = clocked_custom(1, 2, 40)
        for bad in (None, 3, Odd()):
            self.refuses((BadQuestion, "question"), spare_clauses, big, Room(), bad, Who("z"))
        self.refuses((BadQuestion, "seat"), spare_clauses, big, Who("z"), None)
        self.refuses((BadQuestion, "clock"), spare_clauses, big, Reached("z", 1))
        self.refuses((TooMany, 410), spare_clauses, big)
        many = clocked_custom(2, 1, 40)
        self.refuses((TooMany, 5 * 164 * 164), spare_clauses, many, Room())
        self.assertEqual(spare_clauses(clocked_custom(1, 1)), ())

    def test_drawn_choices_are_not_changed(self):
        custom = lively_custom(random.Random(3).randint(0, 9))
        before = custom.clauses
        spare_clauses(custom)
        self.assertEqual(custom.clauses, before)


if __name__ == "__main__":
    unittest.main()
