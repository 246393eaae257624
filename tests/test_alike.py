import random
import unittest

from searchback.alike import alike_customs, covering, parting_years
from searchback.alikefault import alike_fault, covers_fault
from searchback.bearing import narrowed
from searchback.clauses import Apart, AtLeast, Below, Clause, InRoom, Is, IsNot, Put, SamePerson, ToRoom, Zero
from searchback.closed import Alike, Covers, Parting
from searchback.customs import Custom
from searchback.errors import BadQuestion, BadSeat, OtherKinds, OtherSeats, TooMany
from searchback.kinds import Kinds
from searchback.pairs import Pair, most_pairs
from searchback.questions import Filled, Reached, Room, Together, Who
from searchback.searching import search_years
from searchback.stand import Stand
from searchback.walks import answer_of
from tests.duos import changed_custom, told_duo, told_parted, told_parting_years, widened_custom
from tests.helpers import (
    NO_LABELS, Case, Odd, clocked_custom, drawn_questions, fading_custom, guarded_custom, lively_custom, plain_custom,
    random_custom,
)


def codes(pairs):
    return [(pair.one.code, pair.other.code) for pair in pairs]


def drawn_duos(many, first=0, most=1500):
    """Two customs of which one is the other one changed, each two with a number for more choices."""
    for seed in range(first, first + many):
        one = (guarded_custom, fading_custom, lively_custom, random_custom)[seed % 4](seed)
        other = changed_custom(seed, one)
        if seed % 5 > 2:
            other = changed_custom(seed + 1, other)
        if seed % 7 > 4:
            other = widened_custom(seed, other)
        if seed % 2:
            one, other = other, one
        if most_pairs(one, other) <= most:
            yield seed, one, other


def asked_of(seed, one, other):
    """Drawn questions that both customs have; none, now and then, if they have the same seats."""
    asked = [question for question in drawn_questions(seed, one, 3) if question.fault(other) is None]
    if one.seats == other.seats and seed % 3 == 0 or not asked and one.seats == other.seats:
        return []
    return asked or [Room()]


class AlikeTest(Case):
    def test_written_customs(self):
        custom = plain_custom()
        found = alike_customs(custom, custom)
        self.assertIs(type(found), Alike)
        start = Pair(custom.start, custom.start)
        self.assertEqual((found.ends[0], found.moments[0]), (start, start))
        shows = [Stand("free", [None], [(shown, True)]) for shown in range(4)]
        held = [Stand("free", ["a"], [(shown, True)]) for shown in range(3)]
        self.assertEqual({one for one, other in codes(found.ends)}, {stand.code for stand in shows + held[1:]})
        self.assertEqual({one for one, other in codes(found.moments)}, {stand.code for stand in shows + held})
        self.assertTrue(all(pair.is_equal and pair.is_plain for pair in (*found.ends, *found)))
        # Two idle years instead of three: they part behind the second year.
        sooner = custom.with_clauses([*custom.clauses[:2], Clause("year", [AtLeast("idle", 2)], [Put("owner", "nobody")])])
        found = alike_customs(custom, sooner)
        self.assertIs(type(found), Parting)
        self.assertEqual((len(found.history), found.question, found.second), (2, Who("owner"), None))
        self.assertEqual(found.first, answer_of(custom, found.history, Who("owner")))
        self.assertEqual(parting_years(custom, sooner), 2)
        self.assertIs(type(alike_customs(custom, sooner, Room())), Alike)

    def test_answers_amid_a_year_are_not_asked(self):
        kinds = [("x", 1)]
        one = clocked_custom(2, 1, kinds=kinds, clauses=[Clause("x", [], [Put("p", "first")]), Clause("year", [], [Put("p", "nobody")])])
        other = clocked_custom(2, 1, kinds=kinds)
        found = alike_customs(one, other)
        self.assertIs(type(found), Alike)
        self.assertEqual(codes(found.ends), [(one.start.code, other.start.code)])
        self.assertEqual(len(found.moments), 2)
        self.assertFalse(found.is_end(found.moments[1]))

    def test_an_end_that_came_amid_an_earlier_year(self):
        # Amid the first year somebody sits under one alone; at a year's end only behind two years.
        kinds = [("x", 1), ("y", 0)]
        one = clocked_custom(2, 1, 3, kinds=kinds, clauses=[
            Clause("x", [], [Put("p", "first"), Zero("k")]), Clause("y", [AtLeast("k", 2)], [ToRoom("s")]),
            Clause("year", [InRoom("r")], [Put("p", "nobody")])])
        other = clocked_custom(2, 1, 3, kinds=kinds, clauses=[one.clauses[1], Clause("x", [], [Zero("k")])])
        self.assertEqual(told_parting_years(one, other, [Who("p")]), 3)
        found = alike_customs(one, other, Who("p"))
        self.assertEqual((len(found.history), found.second), (3, None))
        self.assertIsNone(alike_fault(one, other, [Who("p")], found))

    def test_customs_of_unlike_shapes(self):
        kinds = [("x", 1), ("pass", 2)]
        one = clocked_custom(1, 2, 2, kinds=kinds, clauses=[
            Clause("x", [], [Put("q", "first")]), Clause("pass", [Apart()], [Put("q", "second"), Put("p", "first")])])
        other = Custom(Kinds(kinds), ["far", "near", "off"], ["o", "q", "p"], [("z", 3, True)], [
            Clause("pass", [SamePerson()], [ToRoom("near")]), Clause("x", [], [Put("q", "first"), Put("o", "q")]),
            Clause("pass", [], [Put("p", "first"), Put("q", "second")])])
        found = alike_customs(one, other, Who("p"), Who("q"), Filled("p"), Together("p", "q"))
        self.assertIs(type(found), Alike)
        self.assertIsNone(alike_fault(one, other, [Who("p"), Who("q"), Filled("p"), Together("p", "q")], found))
        self.assertIs(type(alike_customs(one, other, Room())), Parting)
        self.assertEqual(parting_years(one, other, Room()), 0)
        self.refuses((OtherSeats,), alike_customs, one, other)

    def test_no_question_is_all_seats_and_the_room(self):
        one = clocked_custom(2, 2, 1, kinds=[("x", 1)], clauses=[Clause("x", [], [Put("q", "first"), ToRoom("s")])])
        other = one.with_clauses([Clause("x", [], [Put("q", "first")])])
        found = alike_customs(one, other)
        self.assertEqual((found.question, found.first, found.second, len(found.history)), (Room(), "s", "r", 1))
        other = one.with_clauses([Clause("x", [], [ToRoom("s")])])
        found = alike_customs(one, other)
        self.assertEqual((found.question, found.second, len(found.history)), (Who("q"), None, 1))
        # The clocks are not among the questions.
        other = one.with_clauses([Clause("x", [], [Put("q", "first"), ToRoom("s"), Zero("k")])])
        self.assertIs(type(alike_customs(one, other)), Alike)
        self.assertEqual(parting_years(one, other.with_clauses([*other.clauses, Clause("year", [], [Zero("k")])]),
                                       Room(), Reached("k", 1)), 1)

    def test_the_first_question_that_parts(self):
        one = clocked_custom(2, 1, 1, kinds=[("x", 1)], clauses=[Clause("x", [], [Put("p", "first"), ToRoom("s"), Zero("k")])])
        other = clocked_custom(2, 1, 1, kinds=[("x", 1)])
        asked = [Reached("k", 1), Room(), Filled("p"), Who("p")]
        for first in range(1, 4):
            found = alike_customs(one, other, asked[0], *asked[first:], *asked[1:first])
            self.assertEqual((found.question, len(found.history)), (asked[first], 1))

    def test_a_parting_of_no_years(self):
        one, other = clocked_custom(2, 1, kinds=[("x", 1)]), Custom(Kinds([("x", 1)]), ["s", "r"], ["p"], [], [])
        found = alike_customs(one, other, Who("p"), Room())
        self.assertEqual((len(found.history), found.question, found.first, found.second), (0, Room(), "r", "s"))
        self.assertEqual(parting_years(one, other, Who("p"), Room()), 0)
        self.assertEqual(parting_years(one, other), 0)
        self.assertIsNone(parting_years(one, other, Who("p")))
        self.assertIsNone(alike_fault(one, other, [Room()], alike_customs(one, other, Room())))

    def test_against_a_plain_search(self):
        met = set()
        for seed, one, other in drawn_duos(1000):
            asked = asked_of(seed, one, other)
            told = asked or [Room(), *[Who(seat) for seat in one.seats]]
            years = told_parting_years(one, other, told)
            found = alike_customs(one, other, *asked)
            self.assertEqual(parting_years(one, other, *asked), years, seed)
            self.assertIsNone(alike_fault(one, other, asked, found))
            met.add(years)
            if years is None:
                self.assertIs(type(found), Alike, seed)
                _, ends, moments = told_duo(one, other)
                for pairs, wanted in ((found.ends, ends), (found.moments, moments)):
                    self.assertEqual(set(codes(pairs)), wanted)
                    self.assertEqual(len(pairs), len(wanted))
                    self.assertEqual(codes(pairs)[0], (one.start.code, other.start.code))
                continue
            self.assertIs(type(found), Parting, seed)
            self.assertEqual(len(found.history), years)
            answers = [(answer_of(one, found.history, question), answer_of(other, found.history, question)) for question in told]
            parted = [question for question, answer in zip(told, answers) if answer[0] != answer[1]]
            self.assertEqual(found.question, parted[0])
            self.assertEqual((found.first, found.second), answers[told.index(parted[0])])
        self.assertLessEqual({None, 1, 2, 3, 4}, met)


class StatementsTest(Case):
    def test_the_other_order(self):
        for seed, one, other in drawn_duos(120, 400):
            asked = asked_of(seed, one, other)
            found, turned = alike_customs(one, other, *asked), alike_customs(other, one, *asked)
            self.assertIs(type(found), type(turned))
            self.assertEqual(parting_years(one, other, *asked), parting_years(other, one, *asked))
            if isinstance(found, Alike):
                self.assertEqual(set(codes(found)), set(codes([pair.swapped().plain() for pair in turned])))

    def test_every_custom_is_alike_to_itself(self):
        for seed in range(0, 60, 3):
            custom = (guarded_custom, fading_custom, lively_custom)[seed % 3](seed)
            for asked in ((), drawn_questions(seed, custom, 2)):
                found = alike_customs(custom, custom, *asked)
                self.assertIs(type(found), Alike)
                self.assertTrue(all(pair.is_equal for pair in found))
                self.assertIsNone(parting_years(custom, custom, *asked))

    def test_alike_customs_go_on(self):
        chained = 0
        for seed, one, other in drawn_duos(200):
            third = changed_custom(seed + 9, other)
            asked = [question for question in asked_of(seed, one, other) if question.fault(third) is None] or [Room()]
            if parting_years(one, other, *asked) is None and parting_years(other, third, *asked) is None:
                self.assertIsNone(parting_years(one, third, *asked))
                chained += 1
        self.assertGreater(chained, 20)

    def test_several_questions(self):
        for seed, one, other in drawn_duos(200):
            asked = asked_of(seed, one, other)
            years = [parting_years(one, other, question) for question in asked]
            least = min([count for count in years if count is not None], default=None)
            if asked:
                self.assertEqual(parting_years(one, other, *asked), least)
                self.assertIs(isinstance(alike_customs(one, other, *asked), Alike), least is None)

    def test_alike_customs_have_the_same_number(self):
        compared = 0
        for seed, one, other in drawn_duos(160):
            for question in asked_of(seed, one, other)[:1]:
                if parting_years(one, other, question) is None:
                    self.assertEqual(search_years(one, question), search_years(other, question))
                    compared += one != other
        self.assertGreater(compared, 20)

    def test_narrowed_customs_are_alike(self):
        for seed in range(0, 90, 2):
            custom = (guarded_custom, fading_custom, lively_custom)[seed % 3](seed)
            asked = drawn_questions(seed, custom, 2)
            self.assertIs(type(alike_customs(custom, narrowed(custom, *asked), *asked)), Alike)

    def test_split_customs_are_alike(self):
        for seed in range(1, 60, 2):
            custom = lively_custom(seed)
            clause = custom.clauses[0]
            condition = Below("k", 1) if custom.clocks else InRoom(custom.rooms[-1])
            if condition not in clause.conditions and condition.opposite() not in clause.conditions:
                self.assertIs(type(alike_customs(custom, custom.split(0, condition))), Alike)


class CoveringTest(Case):
    def test_written_customs(self):
        kinds = [("x", 1), ("y", 1)]
        less = clocked_custom(1, 1, kinds=kinds, clauses=[Clause("x", [Is("p", "nobody")], [Put("p", "first")])])
        more = clocked_custom(1, 2, kinds=kinds, clauses=[
            Clause("x", [Is("p", "nobody")], [Put("p", "first")]), Clause("y", [Is("p", "nobody")], [Put("p", "first")])])
        found = covering(more, less, "p")
        self.assertIs(type(found), Parting)
        self.assertEqual((len(found.history), found.question), (1, Who("p")))
        self.assertNotIn(found.second, (None, found.first))
        none = clocked_custom(1, 1, kinds=kinds)
        for custom in (less, more, none):
            self.assertIs(type(covering(custom, none, "p")), Covers)
        found = covering(none, less, "p")
        self.assertEqual((found.first, len(found.history)), (None, 1))
        self.assertEqual(found.second, answer_of(less, found.history, Who("p")))
        # Who is put out sooner is covered by who stays.
        stays = clocked_custom(1, 1, 2, kinds=kinds, clauses=[Clause("x", [], [Put("p", "first"), Zero("k")])])
        goes = stays.with_clauses([*stays.clauses, Clause("year", [AtLeast("k", 2)], [Put("p", "nobody")])])
        self.assertIs(type(covering(stays, goes, "p")), Covers)
        self.assertEqual(len(covering(goes, stays, "p").history), 2)

    def test_against_a_plain_search(self):
        met = set()
        for seed, one, other in drawn_duos(400, 1000):
            seat = random.Random(seed).choice([seat for seat in one.seats if seat in other.seats])
            years = told_parting_years(one, other, [Who(seat)], True)
            found = covering(one, other, seat)
            self.assertIsNone(covers_fault(one, other, seat, found))
            met.add(years)
            if years is None:
                self.assertIs(type(found), Covers, seed)
                _, ends, moments = told_duo(one, other)
                for pairs, wanted in ((found.ends, ends), (found.moments, moments)):
                    self.assertEqual(set(codes(pairs)), wanted)
                    self.assertEqual(len(pairs), len(wanted))
                    self.assertEqual(codes(pairs)[0], (one.start.code, other.start.code))
                self.assertFalse(any(told_parted(one, other, pair, Who(seat), True) for pair in ends))
                continue
            self.assertIs(type(found), Parting, seed)
            self.assertEqual((len(found.history), found.question), (years, Who(seat)))
            self.assertEqual(found.first, answer_of(one, found.history, Who(seat)))
            self.assertEqual(found.second, answer_of(other, found.history, Who(seat)))
            self.assertNotIn(found.second, (None, found.first))
        self.assertLessEqual({None, 1, 2, 3}, met)

    def test_alike_is_covering_both_ways(self):
        both = set()
        for seed, one, other in drawn_duos(160, 2000):
            for seat in one.seats:
                if seat in other.seats:
                    ways = [isinstance(covering(one, other, seat), Covers), isinstance(covering(other, one, seat), Covers)]
                    self.assertIs(parting_years(one, other, Who(seat)) is None, all(ways))
                    both.add(tuple(ways))
        self.assertEqual(len(both), 4)


class ErrorsTest(Case):
    def setUp(self):
        self.one = clocked_custom(1, 1, 3)

    def test_kinds_and_seats_and_questions(self):
        one = self.one
        kinds = clocked_custom(1, 2, 40, kinds=[("x", 2)])
        seats = clocked_custom(1, 2, 40)
        for call in (alike_customs, parting_years):
            self.refuses((OtherKinds,), call, one, kinds)
            self.refuses((OtherKinds,), call, kinds, one, None)
            self.refuses((OtherSeats,), call, one, seats)
            self.refuses((OtherSeats,), call, Custom(one.kinds, ["r"], ["p", "q"], [], []), Custom(one.kinds, ["r"], ["q", "p"], [], []))
            for bad in (None, 3, "Who", Odd(), Who):
                self.refuses((BadQuestion, "question"), call, one, seats, Room(), bad, Who("z"))
            self.refuses((BadQuestion, "seat"), call, one, seats, Room(), Who("q"), Reached("z", 1))
            self.refuses((BadQuestion, "seat"), call, seats, one, Room(), Who("q"), Reached("z", 1))
            self.refuses((BadQuestion, "clock"), call, one, seats, Reached("z", 1), Who("q"))
            # A question is asked of both customs ahead of the next question.
            narrow = Custom(one.kinds, ["r"], ["q"], [("k", 3, True)], [])
            self.refuses((BadQuestion, "seat"), call, one, narrow, Who("p"), Reached("k", 9))
            self.refuses((BadQuestion, "number"), call, one, narrow, Reached("k", 9), Who("p"))
            self.refuses((BadQuestion, "number"), call, seats, one, Reached("k", 9))

    def test_too_many(self):
        kinds = [("x", 0)]
        big = clocked_custom(1, 1, 20, 4, kinds=kinds)
        huge = clocked_custom(3, 1, 20, 4, kinds=kinds)
        small = clocked_custom(1, 1, kinds=kinds)
        self.assertEqual((big.most_stands, huge.most_stands), (840, 2520))
        for call in (lambda *pair: alike_customs(*pair), lambda *pair: parting_years(*pair, Room()),
                     lambda *pair: covering(*pair, "p"), lambda *pair: alike_fault(*pair, (), None),
                     lambda *pair: covers_fault(*pair, "p", None)):
            self.refuses((TooMany, 840), call, big, small)
            self.refuses((TooMany, 840), call, small, big)
            self.refuses((TooMany, 840), call, big, huge)
            self.refuses((TooMany, 2520), call, huge, big)
            call(clocked_custom(1, 1, 4, 9, kinds=kinds), small)

    def test_too_many_pairs(self):
        kinds = [("x", 1)]
        one = clocked_custom(2, 1, 40, kinds=kinds, clauses=[Clause("x", [], [Put("p", "first")])])
        near = [one, clocked_custom(3, 1, 32, kinds=kinds), clocked_custom(2, 1, 36, kinds=kinds)]
        counts = [most_pairs(one, custom) for custom in near]
        self.assertEqual(counts, [5 * 164 * 164, 5 * 164 * 198, 5 * 164 * 148])
        for custom, count in zip(near, counts):
            self.refuses((TooMany, count), alike_customs, one, custom)
            self.refuses((TooMany, count), parting_years, one, custom, Room())
            self.refuses((TooMany, count), covering, one, custom, "p")

    def test_just_60000_pairs(self):
        kinds = [("x", 1)]
        one = clocked_custom(2, 1, 24, kinds=kinds)
        exact, over = [clocked_custom(3, 1, cap, kinds=kinds) for cap in (19, 20)]
        self.assertEqual((most_pairs(one, exact), most_pairs(over, one)), (60000, 63000))
        self.assertIs(type(alike_customs(one, exact)), Alike)
        self.assertIsNone(parting_years(exact, one))
        self.assertIs(type(covering(one, exact, "p")), Covers)
        self.refuses((TooMany, 63000), alike_customs, one, over)
        self.refuses((TooMany, 63000), parting_years, over, one)
        self.refuses((TooMany, 63000), covering, over, one, "p")

    def test_seats(self):
        other = clocked_custom(1, 2, 40)
        for seat in (*NO_LABELS, "o", "first", "second", "nobody", "k", "r"):
            self.refuses((BadSeat, seat), covering, self.one, other, seat)
        self.refuses((BadSeat, "q"), covering, self.one, other, "q")
        self.refuses((BadSeat, "q"), covering, other, self.one, "q")
        self.refuses((OtherKinds,), covering, self.one, clocked_custom(1, 1, kinds=[("x", 0)]), None)
        self.refuses((TooMany, 410), covering, self.one, other, "p")

    def test_nothing_is_changed(self):
        one = guarded_custom(3)
        other = changed_custom(2, one)
        before = (one.clauses, other.clauses, IsNot("p", "nobody"))
        asked = [Room(), Who("p")]
        first = alike_customs(one, other, *asked)
        self.assertEqual(alike_customs(one, other, *asked), first)
        self.assertEqual((one.clauses, other.clauses), before[:2])


if __name__ == "__main__":
    unittest.main()
