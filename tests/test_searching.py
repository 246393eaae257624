import unittest

from searchback.bearing import narrowed
from searchback.clauses import AtLeast, Clause, InRoom, Is, Put, ToRoom, Zero
from searchback.customs import Custom
from searchback.errors import BadQuestion, BadStand, BadYears, NoKind, TooMany
from searchback.heights import Heights, heights_fault
from searchback.histories import History
from searchback.kinds import Kinds
from searchback.pairs import Pair, beginning_pairs, ended_pair, is_unlike, led_pair, most_pairs
from searchback.pasts import Pasts, Rings, pasts_fault, rings_fault
from searchback.patterns import deeds_over
from searchback.questions import Filled, Reached, Room, Who
from searchback.searching import (
    Endless, Found, falling_counts, found_fault, pasts_for, search_years, searching, years_left,
)
from searchback.stand import Stand
from searchback.walks import answer_of, led_on, stand_at
from tests.helpers import (
    NO_WHOLES, Case, Odd, clocked_custom, drawn_questions, fading_custom, lively_custom, plain_custom, random_history,
    random_stand, searched_customs, told_beginnings, told_coming, told_heights, told_joint, told_pair_graph,
    told_years_of,
)

KINDS = Kinds((("record", 1),))
WRITE = Clause("record", (), (Put("owner", "first"), Zero("idle")))
LAPSE = Clause("year", (AtLeast("idle", 3),), (Put("owner", "nobody"),))
EXAMPLE = Custom(KINDS, ("plain",), ("owner",), (("idle", 3, True),), (WRITE, LAPSE))
EVERY = 300


KNOWN = {}


def drawn(many, most=EVERY):
    """Customs, questions and kinds left out, with the years of all beginning pairs by a plain search."""
    for seed, custom in searched_customs(many):
        questions = drawn_questions(seed, custom, 2)
        without = custom.kinds.names[:(0, 0, 1, 2)[seed % 4]]
        if seed not in KNOWN:
            KNOWN[seed] = told_years(custom, questions, without)
        if 0 < len(KNOWN[seed]) <= most:
            yield seed, custom, questions, without, KNOWN[seed]


def told_years(custom, questions, without):
    """The years of each beginning pair; nothing if they are too many for a plain search."""
    beginnings = told_beginnings(custom)
    if len(beginnings) > EVERY:
        return {}
    heights = told_heights(custom, told_pair_graph(custom, beginnings, without), questions)
    return {pair: told_years_of(custom, heights, pair, questions) for pair in beginnings}


def greatest(years):
    """The greatest of the years; None is the greatest of all."""
    rows = list(years)
    return None if None in rows else max(rows)


def at_most(one, other):
    return other is None or (one is not None and one <= other)


class NumberTest(Case):
    def test_the_example(self):
        self.assertEqual(search_years(EXAMPLE, Who("owner")), 2)
        self.assertEqual(falling_counts(EXAMPLE, Who("owner")), (22, 13, 0))
        self.assertIsNone(search_years(EXAMPLE.with_clauses((WRITE,)), Who("owner")))

    def test_written_numbers(self):
        # Only a clause that nobody can ask for asks again: the room shows the last year's deeds.
        kinds = [("open", 0), ("shut", 0)]
        custom = clocked_custom(2, 1, kinds=kinds, clauses=[
            Clause("open", [], [ToRoom("r")]), Clause("shut", [], [ToRoom("s")]), Clause("year", [], [ToRoom("r")])])
        self.assertEqual([search_years(custom, one) for one in (Room(), Who("p"), Filled("p"))], [0, 0, 0])
        custom = custom.with_clauses(custom.clauses[:2])
        self.assertIsNone(search_years(custom, Room()))
        for cap in (1, 2, 7, 24):
            fading = clocked_custom(2, 1, cap, kinds=kinds, clauses=[
                Clause("open", [], [ToRoom("r"), Zero("k")]), Clause("shut", [], [ToRoom("s"), Zero("k")]),
                Clause("year", [AtLeast("k", cap)], [ToRoom("r")])])
            self.assertEqual(search_years(fading, Room()), cap - 1)
            self.assertEqual(search_years(fading, Room(), without=["shut"]), cap - 1)
            self.assertEqual(search_years(fading, Reached("k", cap)), cap)
            self.assertEqual(search_years(fading, Room(), Reached("k", cap)), cap)

    def test_no_clock_and_two_clocks(self):
        record = Clause("x", [], [Put("p", "first")])
        self.assertEqual(search_years(clocked_custom(1, 1, clauses=[record, Clause("year", [], [Put("p", "nobody")])]), Who("p")), 0)
        custom = clocked_custom(1, 1, 2, 3, clauses=[
            Clause("x", [], [Put("p", "first"), Zero("k"), Zero("l")]), Clause("year", [AtLeast("l", 3)], [Put("p", "nobody")])])
        self.assertEqual([search_years(custom, one) for one in (Who("p"), Reached("k", 2), Reached("l", 3))], [2, 2, 3])

    def test_three_seats(self):
        custom = clocked_custom(1, 3, kinds=[("x", 2), ("y", 1)], clauses=[
            Clause("x", [], [Put("p", "first"), Put("q", "second"), Put("o", "p")]), Clause("year", [], [Put("q", "p"), Put("p", "nobody")])])
        self.assertEqual([search_years(custom, Who(seat)) for seat in ("p", "q", "o")], [0, 1, None])

    def test_against_a_plain_search(self):
        seen = set()
        for seed, custom, questions, without, years in drawn(200):
            number = greatest(years.values())
            self.assertEqual(search_years(custom, *questions, without=without), number, seed)
            self.assertEqual(search_years(custom, *questions, without=list(without) * 2), number)
            seen.add(number)
        self.assertLessEqual({None, 0, 1, 2, 3, 4}, seen)

    def test_drawn_histories_answer_alike(self):
        for seed, custom in searched_customs(150):
            question = drawn_questions(seed, custom)[0]
            number = search_years(custom, question)
            if number is None:
                continue
            for part in range(12):
                one, other, last = [random_history(100 * seed + 3 * part + row, custom.kinds) for row in range(3)]
                common = History(custom.kinds, [*last.years, *last.years, *last.years][:number])
                if len(common) == number:
                    answers = [answer_of(custom, past.joined(common), question) for past in (one, other)]
                    self.assertEqual(answers[0], answers[1], seed)

    def test_several_questions(self):
        for seed, custom in searched_customs(90):
            questions = drawn_questions(seed, custom, 4)
            numbers = [search_years(custom, question) for question in questions]
            self.assertEqual(search_years(custom, *questions), greatest(numbers), seed)

    def test_more_kinds_left_out(self):
        lesser = 0
        for seed, custom in searched_customs(150):
            question = drawn_questions(seed, custom)[0]
            numbers = [search_years(custom, question, without=custom.kinds.names[:many])
                       for many in range(len(custom.kinds) + 1)]
            for fewer, more in zip(numbers, numbers[1:]):
                self.assertTrue(at_most(more, fewer), seed)
                lesser += fewer != more
        self.assertGreater(lesser, 5)

    def test_number_0(self):
        for seed, custom in searched_customs(150):
            ends = [Stand(*code) for code in told_coming(custom)[1]]
            for seat in custom.seats:
                place = custom.seats.index(seat)
                empty = all(stand.seats[place] is None for stand in ends)
                self.assertEqual(search_years(custom, Who(seat)) == 0, empty)
            for question in drawn_questions(seed, custom, 9):
                if not isinstance(question, Who):
                    answers = {question.of(custom, stand) for stand in ends}
                    self.assertEqual(search_years(custom, question) == 0, len(answers) == 1)

    def test_customs_that_answer_alike(self):
        for seed, custom in searched_customs(120):
            question = drawn_questions(seed, custom)[0]
            number = search_years(custom, question)
            self.assertEqual(search_years(narrowed(custom, question), question), number)
            if len(custom) < 12:
                self.assertEqual(search_years(custom.with_clauses((*custom.clauses, custom.clauses[0])), question), number)


class YearsLeftTest(Case):
    def test_beginning_pairs_against_a_plain_search(self):
        for seed, custom, questions, without, years in drawn(60, 120):
            for pair, told in sorted(years.items(), key=str)[::1 + len(years) // 15]:
                found = years_left(custom, Stand(*pair[0]), Stand(*pair[1]), *questions, without=without)
                self.assertEqual(found, told, (seed, pair))
            number = search_years(custom, *questions, without=without)
            self.assertEqual(number, greatest([
                years_left(custom, pair.one, pair.other, *questions, without=without)
                for pair in beginning_pairs(custom)]) if len(years) < 60 else number)

    def test_stands_that_cannot_come(self):
        for seed, custom in searched_customs(150):
            one, other = random_stand(seed, custom), random_stand(seed + 900, custom)
            questions = drawn_questions(seed, custom, 2)
            without = custom.kinds.names[:seed % 3]
            pair = told_joint(one, other)
            heights = told_heights(custom, told_pair_graph(custom, [pair], without), questions)
            told = told_years_of(custom, heights, pair, questions)
            found = years_left(custom, one, other, *questions, without=without)
            self.assertEqual(found, told, seed)
            self.assertEqual(years_left(custom, other, one, *questions, without=without), told)
            names = {"a": "d", "b": "zed", "c": "a", "d": "b"}
            self.assertEqual(years_left(custom, one.renamed(names), other.renamed(names), *questions, without=without), told)
            self.assertEqual(years_left(custom, one, one, *questions, without=without), 0)

    def test_three_stands(self):
        for seed, custom in searched_customs(120):
            stands = [random_stand(5 * seed + part, custom, ("a", "b")) for part in range(3)]
            question = drawn_questions(seed, custom)[0]
            one, two, both = [years_left(custom, stands[a], stands[b], question) for a, b in ((0, 1), (1, 2), (0, 2))]
            self.assertTrue(at_most(both, greatest([one, two])), seed)

    def test_behind_one_more_year(self):
        reached = 0
        for seed in range(100):
            custom = fading_custom(seed)
            question = drawn_questions(seed, custom)[0]
            without = custom.kinds.names[:seed % 2]
            ends = [Stand(*code) for code in sorted(told_coming(custom)[1], key=str)]
            pair = Pair(ends[seed % len(ends)], ends[7 * seed % len(ends)])
            left = years_left(custom, pair.one, pair.other, question, without=without)
            behind = [years_left(custom, end.one, end.other, question, without=without)
                      for end in self.ends(custom, pair, without)]
            if left == 0:
                self.assertEqual(set(behind), {0})
            elif left is not None:
                self.assertTrue(all(years is not None and years < left for years in behind))
            if left is not None and left >= 2:
                self.assertIn(left - 1, behind)
                reached += 1
        self.assertGreater(reached, 8)

    def ends(self, custom, pair, without):
        """The plain pairs behind one more year of any deeds that are let."""
        rows, waiting = [], [pair]
        while waiting:
            one = waiting.pop().plain()
            if one not in rows:
                rows.append(one)
                waiting.extend(led_pair(custom, one, deed) for deed in deeds_over(custom.kinds, one.persons)
                               if deed[0] not in without)
        return [ended_pair(custom, one) for one in rows]

    def test_errors_in_order(self):
        custom = plain_custom()
        far = Stand("far", ["a"])
        self.refuses((BadQuestion, "seat"), years_left, custom, far, None, Who("far"), without=3)
        self.refuses((NoKind, 3), years_left, custom, far, None, Room(), without=3)
        self.refuses((BadStand, "room"), years_left, custom, far, None, Room(), without=["sells"])
        self.refuses((BadStand, "stand"), years_left, custom, custom.start, None, Room())
        self.refuses((BadStand, "number"), years_left, custom, custom.start, Stand("free", ["a"], [(4, True)]), Room())
        big = clocked_custom(1, 2, 40)
        self.refuses((BadStand, "stand"), years_left, big, big.start, None, Room())
        self.refuses((TooMany, 410), years_left, big, big.start, big.start, Room())


class FallingTest(Case):
    def test_all_unequal_pairs_unlike(self):
        custom = clocked_custom(1, 1, clauses=[Clause("x", [], [Put("p", "first")])])
        self.assertEqual(falling_counts(custom, Who("p")), (3, 3))
        self.assertEqual(falling_counts(custom, Room()), (0,))

    def test_against_a_plain_search(self):
        kinds = set()
        for seed, custom, questions, without, years in drawn(150):
            told = []
            while not told or (told[-1] > 0 and (len(told) == 1 or told[-1] < told[-2])):
                told.append(len([one for one in years.values() if one is None or one > len(told)]))
            found = falling_counts(custom, *questions, without=without)
            self.assertEqual(found, tuple(told), seed)
            self.assertIs(type(found), tuple)
            number = search_years(custom, *questions, without=without)
            if number is None:
                self.assertEqual(found[-1], found[-2])
                self.assertGreater(found[-1], 0)
            else:
                self.assertEqual(len(found) - 1, number)
            falling = found if number is not None else found[:-1]
            self.assertTrue(all(one > other for one, other in zip(falling, falling[1:])))
            kinds.add((number is None, min(len(found), 4)))
        self.assertLessEqual({(False, 1), (False, 2), (False, 3), (False, 4), (True, 2), (True, 3)}, kinds)


class SearchingTest(Case):
    def test_what_is_found_shows_it(self):
        seen = set()
        for seed, custom, questions, without, years in drawn(150):
            found = searching(custom, *questions, without=without)
            number = greatest(years.values())
            self.assertIsNone(found_fault(custom, found, *questions, without=without), seed)
            seen.add(type(found))
            if number is None:
                self.rings_part(custom, found.rings, questions, without)
                continue
            self.assertEqual(found.years, number)
            if number == 0:
                self.assertIsNone(found.pasts)
            else:
                self.assertEqual(len(found.pasts), number - 1)
                self.assertTrue(self.parts(custom, found.pasts.histories(), questions))
        self.assertEqual(seen, {Found, Endless})

    def parts(self, custom, histories, questions):
        return any(answer_of(custom, histories[0], one) != answer_of(custom, histories[1], one) for one in questions)

    def rings_part(self, custom, rings, questions, without):
        ring = History(custom.kinds, rings.ring)
        for past in (rings.one, rings.other):
            self.assertEqual(led_on(custom, stand_at(custom, past), ring), stand_at(custom, past))
        for turns in (0, 1, 3):
            self.assertTrue(self.parts(custom, rings.written(turns), questions))
        self.assertFalse(any(deed[0] in without for year in (*rings.ring, *rings.tail) for deed in year))

    def test_exact_heights_of_all_that_can_come(self):
        for seed, custom, questions, without, _ in drawn(90, 120):
            found = searching(custom, *questions, without=without)
            if isinstance(found, Endless):
                continue
            graph = told_pair_graph(custom, told_beginnings(custom), without)
            heights = told_heights(custom, graph, questions)
            listed = set()
            for pair, height in found.heights:
                for one in (pair, pair.swapped().plain()):
                    listed.add((one.one.code, one.other.code))
                    self.assertEqual(heights[(one.one.code, one.other.code)], height)
            self.assertEqual(listed, {pair for pair in graph if pair[0] != pair[1]})

    def test_one_thing_changed_in_a_found(self):
        found = searching(EXAMPLE, Who("owner"))
        self.assertEqual(type(found), Found)
        def fault(years=found.years, heights=found.heights, pasts=found.pasts):
            return found_fault(EXAMPLE, Found(years, heights, pasts), Who("owner"))
        self.assertIsNone(fault())
        for thing in (None, 3, (2, found.heights, found.pasts), found.heights, Odd()):
            self.assertEqual(found_fault(EXAMPLE, thing, Who("owner")), "found")
        for years in (*NO_WHOLES, -1):
            self.assertEqual(fault(years=years), "years")
            self.assertEqual(fault(years=years, heights=None, pasts=None), "years")
        for heights in (None, Heights([]), Heights(found.heights.rows[1:]), Heights([(pair, 0) for pair, _ in found.heights])):
            self.assertEqual(fault(heights=heights), "heights")
            self.assertEqual(fault(heights=heights, years=9, pasts=None), "heights")
        self.assertEqual(fault(heights=Heights([(pair, 2 * height) for pair, height in found.heights])), "bound")
        for years in (0, 1, 3, 10 ** 30):
            self.assertEqual(fault(years=years), "bound")
            self.assertEqual(fault(years=years, pasts=None), "bound")
        pasts = found.pasts
        for other in (None, 3, Pasts(pasts.one, pasts.one, pasts.years), pasts_for(EXAMPLE, 0, Who("owner")),
                      Pasts(pasts.one, pasts.other, ()), Pasts(pasts.one, pasts.other, (*pasts.years, *pasts.years))):
            self.assertEqual(fault(pasts=other), "pasts")
        # The table is right for the room, too, only higher than needed; but the room is always the same.
        self.assertEqual(found_fault(EXAMPLE, found, Room()), "pasts")

    def test_number_0_and_1(self):
        custom = clocked_custom(1, 1, 2, clauses=[Clause("x", [], [Put("p", "first")]), Clause("year", [], [Put("p", "nobody")])])
        found = searching(custom, Who("p"))
        self.assertEqual((found.years, found.pasts, found.heights.most), (0, None, 0))
        pasts = Pasts(History(custom.kinds), History(custom.kinds, [[]]), ())
        self.assertEqual(found_fault(custom, Found(0, found.heights, pasts), Who("p")), "pasts")
        self.assertEqual(found_fault(custom, Found(1, found.heights, pasts), Who("p")), "bound")
        one = searching(custom, Reached("k", 1))
        self.assertEqual((one.years, one.heights.most, len(one.pasts)), (1, 0, 0))
        self.assertIsNone(found_fault(custom, Found(1, one.heights, pasts), Reached("k", 1)))
        self.assertEqual(found_fault(custom, Found(0, one.heights, None), Reached("k", 1)), "bound")
        self.assertEqual(found_fault(custom, Found(2, one.heights, pasts), Reached("k", 1)), "bound")
        self.assertEqual(found_fault(custom, Found(1, one.heights, None), Reached("k", 1)), "pasts")

    def test_one_thing_changed_in_an_endless(self):
        custom = EXAMPLE.with_clauses((WRITE,))
        rings = searching(custom, Who("owner")).rings
        self.assertIsNone(found_fault(custom, Endless(rings), Who("owner")))
        record = [("record", "zed")]
        for other in (None, 3, Rings(rings.one, rings.one, rings.ring, rings.tail),
                      Rings(rings.one, rings.other, rings.ring, (*rings.tail, record)),
                      Rings(rings.one, rings.other, (record,), rings.tail),
                      Pasts(rings.one, rings.other, ())):
            self.assertEqual(found_fault(custom, Endless(other), Who("owner")), "rings")
        self.assertEqual(found_fault(custom, Endless(rings), Room()), "rings")

    def test_drawn_changes_are_refused(self):
        words = set()
        for seed, custom, questions, without, _ in drawn(60, 100):
            found = searching(custom, *questions, without=without)
            if isinstance(found, Endless) or not len(found.heights):
                continue
            rows = found.heights.rows
            place = seed % len(rows)
            fewer = Heights([*rows[:place], *rows[place + 1:]])
            for changed in (Found(found.years + 1, found.heights, found.pasts), Found(found.years, fewer, found.pasts),
                            Found(found.years, found.heights, pasts_for(custom, found.years, *questions, without=without)),
                            Found(found.years, Heights([(pair, height + 5) for pair, height in rows]), found.pasts)):
                told = None
                if heights_fault(custom, changed.heights, *questions, without=without) is not None:
                    told = "heights"
                elif changed.years != self.bound(custom, changed.heights, questions):
                    told = "bound"
                elif changed.years > 0 and changed.pasts is None:
                    told = "pasts"
                self.assertEqual(found_fault(custom, changed, *questions, without=without), told, seed)
                words.add(told)
        self.assertEqual(words, {None, "heights", "bound", "pasts"})

    def bound(self, custom, heights, questions):
        if heights.most > 0:
            return heights.most + 1
        return 1 if any(is_unlike(custom, pair, *questions) for pair in beginning_pairs(custom)) else 0

    def test_results_keep_their_arguments(self):
        found, endless = Found(1, "x", None), Endless(3)
        self.assertEqual((found.years, found.heights, found.pasts, endless.rings), (1, "x", None, 3))


class WaysTest(Case):
    """Common years, rings and tails that need deeds, several in one year."""

    def check(self, custom, question, number, **named):
        found = searching(custom, question, **named)
        self.assertIsNone(found_fault(custom, found, question, **named))
        self.assertEqual(search_years(custom, question, **named), number)
        for years in (0, 1, 2, 3, 4, 9, 200):
            pasts = pasts_for(custom, years, question, **named)
            self.assertEqual(pasts is None, number is not None and number <= years)
            if pasts is not None:
                self.assertIsNone(pasts_fault(custom, pasts, question, **named))
                self.assertEqual(len(pasts), years)
        return found

    def hiding(self, *fading):
        """Who is set is shown only if the thing is opened and then shown in one year, and then for one year."""
        return clocked_custom(3, 2, 4, kinds=[("set", 1), ("shut", 0), ("open", 0), ("show", 0)], clauses=[
            Clause("set", [], [Put("q", "first"), Zero("k")]), Clause("open", [InRoom("r")], [ToRoom("s")]),
            Clause("shut", [InRoom("s")], [ToRoom("r")]),
            Clause("show", [InRoom("s")], [Put("p", "q"), Put("q", "nobody"), ToRoom("t")]), *fading,
            Clause("year", [InRoom("t")], [ToRoom("r")]), Clause("year", [InRoom("s")], [Put("p", "nobody"), Put("q", "nobody"), ToRoom("r")]),
            Clause("year", [], [Put("p", "nobody")])])

    def test_two_deeds_in_the_last_common_year(self):
        custom = self.hiding(Clause("year", [AtLeast("k", 4)], [Put("q", "nobody"), Put("p", "nobody"), ToRoom("r")]))
        # Whoever is set last, behind the showing, begins the clock again.
        found = self.check(custom, Who("p"), 4)
        self.assertEqual([[deed[0] for deed in year] for year in found.pasts.years], [[], [], ["open", "show", "set"]])
        self.check(custom, Filled("p"), 4)
        self.check(custom, Who("p"), 1, without=["show"])

    def test_years_that_end_alike_without_a_deed(self):
        # Who was set is known for one more year, and is seen only if it is shown in this year.
        custom = clocked_custom(2, 3, kinds=[("set", 1), ("show", 0)], clauses=[
            Clause("set", [], [Put("o", "first")]), Clause("show", [], [Put("p", "q"), ToRoom("s")]),
            Clause("year", [InRoom("s")], [Put("q", "o"), Put("o", "nobody"), ToRoom("r")]),
            Clause("year", [], [Put("p", "nobody"), Put("q", "o"), Put("o", "nobody")])])
        found = self.check(custom, Who("p"), 2)
        self.assertEqual(found.pasts.years, ((("show",),),))
        self.check(custom, Who("p"), 1, without=["show"])

    def test_two_deeds_in_the_tail(self):
        found = self.check(self.hiding(), Who("p"), None)
        self.assertEqual(found.rings.tail[-1], (("open",), ("show",)))
        self.assertEqual(found.rings.ring, ((),))
        self.assertEqual(pasts_for(self.hiding(), 3, Who("p")).years, ((), (), (("open",), ("show",))))

    def test_two_deeds_in_the_ring(self):
        kinds = [("set", 1), ("open", 0), ("keep", 0)]
        custom = clocked_custom(3, 1, kinds=kinds, clauses=[
            Clause("set", [], [Put("p", "first")]), Clause("open", [InRoom("r")], [ToRoom("s")]),
            Clause("keep", [InRoom("s")], [ToRoom("t")]), Clause("year", [InRoom("t")], [ToRoom("r")]),
            Clause("year", [], [Put("p", "nobody"), ToRoom("r")])])
        found = self.check(custom, Who("p"), None)
        self.assertEqual(found.rings.ring, ((("open",), ("keep",)),))
        self.check(custom, Who("p"), 1, without=["keep"])

    def test_a_ring_of_several_years(self):
        # Only in every third year the thing is kept, and it must be.
        custom = clocked_custom(1, 1, 3, kinds=[("set", 1), ("keep", 0)], clauses=[
            Clause("set", [], [Put("p", "first"), Zero("k")]), Clause("keep", [AtLeast("k", 2)], [Zero("k")]),
            Clause("year", [AtLeast("k", 3)], [Put("p", "nobody")])])
        found = self.check(custom, Who("p"), None)
        self.assertEqual(len(found.rings.ring), 2)
        self.check(custom, Who("p"), 2, without=["keep"])

    def test_names_that_come_again_late(self):
        # In the first two the names of the beginning do not come again, but later ones do.
        customs = [fading_custom(seed, seats=3, cap=2) for seed in (706, 12752)]
        customs += [lively_custom(seed, seats=3, cap=2) for seed in range(25)]
        for seed, custom in enumerate(customs):
            if most_pairs(custom, custom) > 60000:
                continue
            for question in (Who("p"), Filled("q"), Room()) if "q" in custom.seats else (Who("p"),):
                found = searching(custom, question)
                self.assertIsNone(found_fault(custom, found, question), seed)
                for years in (1, 2, 7):
                    pasts = pasts_for(custom, years, question)
                    self.assertEqual(pasts is None, isinstance(found, Found) and found.years <= years)
                    self.assertTrue(pasts is None or pasts_fault(custom, pasts, question) is None, seed)


class PastsForTest(Case):
    def test_just_so_many_common_years(self):
        for seed, custom, questions, without, told in drawn(120):
            number = greatest(told.values())
            for years in (0, 1, 2, 3, 200):
                pasts = pasts_for(custom, years, *questions, without=without)
                if number is not None and number <= years:
                    self.assertIsNone(pasts)
                    continue
                self.assertEqual(len(pasts), years)
                self.assertIsNone(pasts_fault(custom, pasts, *questions, without=without))
                self.assertLessEqual(len(History(custom.kinds, pasts.years).persons), 8)
                one, other = pasts.histories()
                self.assertTrue(one.agrees(other, years))
                self.assertTrue(any(answer_of(custom, one, asked) != answer_of(custom, other, asked) for asked in questions))

    def test_at_most_eight_persons(self):
        # The ring names new persons again and again; others sit in six seats of the two stands.
        custom = clocked_custom(1, 3, kinds=[("x", 2)], clauses=[
            Clause("x", [Is("p", "second")], [Put("o", "first")]),
            Clause("x", [], [Put("p", "q"), Put("q", "o"), Put("o", "first")]),
            Clause("year", [Is("p", "nobody")], [Put("p", "o")])])
        for seed in range(30):
            three = (custom, *[one(seed, seats=3, cap=1) for one in (fading_custom, lively_custom)])[seed % 3]
            for question in (Who("p"), Filled("p")):
                for years in (7, 23):
                    pasts = pasts_for(three, years, question)
                    if pasts is not None:
                        self.assertIsNone(pasts_fault(three, pasts, question))
                        self.assertEqual(len(pasts), years)
                        self.assertLessEqual(len(History(three.kinds, pasts.years).persons), 8)
                found = searching(three, question)
                self.assertIsNone(found_fault(three, found, question))

    def test_refused_years(self):
        for years in (*NO_WHOLES, -1, 201):
            self.refuses((BadYears, years), pasts_for, EXAMPLE, years, Room())
            self.refuses((BadYears, years), pasts_for, clocked_custom(1, 2, 40), years, Room())
            self.refuses((BadQuestion, "question"), pasts_for, EXAMPLE, years, 3)
            self.refuses((NoKind, "far"), pasts_for, EXAMPLE, years, Room(), without=["far"])
        self.refuses((TooMany, 410), pasts_for, clocked_custom(1, 2, 40), 200, Room())


class ErrorsTest(Case):
    def calls(self):
        yield lambda custom, *questions, **named: search_years(custom, *questions, **named)
        yield lambda custom, *questions, **named: falling_counts(custom, *questions, **named)
        yield lambda custom, *questions, **named: searching(custom, *questions, **named)
        yield lambda custom, *questions, **named: pasts_for(custom, 3, *questions, **named)
        yield lambda custom, *questions, **named: years_left(custom, custom.start, custom.start, *questions, **named)
        yield lambda custom, *questions, **named: found_fault(custom, None, *questions, **named)
        yield lambda custom, *questions, **named: heights_fault(custom, None, *questions, **named)

    def test_in_order(self):
        big = clocked_custom(1, 2, 40)
        for call in self.calls():
            for word, question in [("question", None), ("seat", Who("far")), ("clock", Reached("far", 1)),
                                   ("number", Reached("k", 40))]:
                for custom in (big, clocked_custom(1, 2, 39)):
                    if word != "number" or custom != big:
                        self.refuses((BadQuestion, word), call, custom, question, None, without=3)
                        self.refuses((BadQuestion, word), call, custom, Room(), question, without=3)
            for thing in (None, 3, "x", {"x": 1}, {"x"}):
                self.refuses((NoKind, thing), call, big, Room(), without=thing)
            for name in ("year", "p", None, 3, ["x"]):
                self.refuses((NoKind, name), call, big, Room(), without=("x", name, "far"))
            self.refuses((TooMany, 410), call, big, Room())
            self.refuses((TooMany, 60112), call, clocked_custom(1, 2, 16), Room(), without=["x", "x"])

    def test_just_below(self):
        for custom in (clocked_custom(3, 1, 17), clocked_custom(1, 3, 3), clocked_custom(1, 2, 15)):
            self.assertEqual(search_years(custom, Room(), Who("p")), 0)
            self.assertEqual(searching(custom, Who("p")).years, 0)

    def test_all_kinds_left_out(self):
        custom = clocked_custom(1, 1, 3, clauses=[Clause("x", [], [Put("p", "first"), Zero("k")])])
        self.assertIsNone(search_years(custom, Who("p"), without=["x"]))
        self.assertEqual(search_years(custom, Reached("k", 3), without=("x", "x")), 3)
        self.assertEqual(pasts_for(custom, 9, Who("p"), without=["x"]).years, ((),) * 9)

    def test_keeps_nothing(self):
        without = ["x"]
        custom = clocked_custom(1, 1, clauses=[Clause("x", [], [Put("p", "first")])])
        searching(custom, Who("p"), without=without)
        years_left(custom, custom.start, custom.start, Who("p"), without=without)
        self.assertEqual(without, ["x"])


class LargeTest(Case):
    def test_many_pairs_with_many_deeds(self):
        kinds = [(name, 2) for name in ("u", "v", "w", "x", "y", "z")]
        custom = clocked_custom(1, 3, 3, kinds=kinds, clauses=[
            Clause("u", [], [Put("p", "first"), Put("q", "second")]), Clause("v", [], [Put("q", "p"), Put("o", "first")]),
            Clause("w", [Is("p", "first")], [Put("o", "second")]), Clause("x", [Is("q", "second")], [Put("p", "first"), Zero("k")]),
            Clause("y", [], [Put("o", "nobody")]), Clause("z", [AtLeast("k", 2)], [Put("p", "o")]),
            Clause("year", [AtLeast("k", 3)], [Put("p", "nobody"), Put("q", "nobody"), Put("o", "nobody"), Zero("k")])])
        found = searching(custom, Who("p"))
        self.assertIsNone(found_fault(custom, found, Who("p")))
        self.assertIsInstance(found, Endless)
        self.assertIsNone(rings_fault(custom, found.rings, Who("p")))


if __name__ == "__main__":
    unittest.main()
