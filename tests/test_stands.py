import unittest

from searchback.clauses import AtLeast, Clause, Halt, Is, IsNot, Put, Run, ToRoom, Zero
from searchback.customs import Custom
from searchback.errors import BadStand, BadYears, NoStand, TooMany
from searchback.kinds import Kinds
from searchback.patterns import all_stands, deeds_over
from searchback.stand import Stand
from searchback.stands import Leaving, coming_stands, leaving, stands_after
from searchback.walks import stand_at
from tests.helpers import (
    NO_WHOLES, Case, Odd, clocked_custom, plain_custom, random_stand, small_customs, told_after, told_closure,
    told_coming, told_end, told_ends, told_plain, wide_custom,
)

EXACT = (0, 1, 2, 5)
# Three ticks of a clock, then the room changes and the clock begins again.
RING = Custom(Kinds([("x", 1)]), ["r", "s"], ["p"], [("k", 2, True)], [
    Clause("year", [AtLeast("k", 2)], [ToRoom("s"), Zero("k")]), Clause("x", [Is("p", "nobody")], [Put("p", "first")])])


def named(stand):
    """The plain stand with other persons."""
    return stand.renamed(dict(zip(stand.persons, ("zed", "a", "yi"))))


def fault_words(custom):
    """Stands that the custom does not have, with their words."""
    seats = [None] * len(custom.seats)
    clocks = [(0, True)] * len(custom.clocks)
    return [("stand", None), ("stand", Odd()), ("room", Stand("none", [None])), ("seats", Stand(custom.rooms[0], [None] * 3)),
            ("clocks", Stand(custom.rooms[0], seats)), ("number", Stand(custom.rooms[0], seats, [(40, True)] * len(clocks)))]


class ComingTest(Case):
    def test_written_stands(self):
        coming = coming_stands(RING)
        rows = [(stand.room, stand.seats[0], stand.clocks[0][0]) for stand in coming.ends]
        self.assertEqual(rows, [("r", None, 0), ("r", None, 1), ("r", "a", 1), ("s", None, 0), ("s", None, 1),
                                ("s", "a", 0), ("s", "a", 1)])
        self.assertEqual(len(coming), len(coming.moments))
        self.assertEqual(list(coming), list(coming.moments))
        self.assertEqual(len(coming), 8)
        self.assertEqual(coming.custom, RING)
        begun = Stand("r", ["ann"], [(0, True)])
        self.assertTrue(coming.is_moment(begun))
        self.assertFalse(coming.is_end(begun))
        self.assertEqual((coming.years_ahead(begun), coming.years_to(begun)), (0, None))
        self.assertEqual(coming.years_to(Stand("s", ["bob"], [(1, True)])), 3)
        self.assertEqual(coming.way_to(begun)[1], (("x", "ann"),))
        self.assertEqual(coming.history_to(RING.start).years, ())
        never = Stand("r", ["ann"], [(1, False)])
        self.assertEqual((coming.is_end(never), coming.is_moment(never)), (False, False))
        self.assertEqual((coming.years_ahead(never), coming.years_to(never)), (None, None))

    def test_against_a_plain_search(self):
        for seed, custom in small_customs(70):
            rows, ends, moments = told_coming(custom)
            coming = coming_stands(custom)
            stands = list(all_stands(custom))
            self.assertEqual(coming.ends, tuple(stand for stand in stands if stand.code in ends), seed)
            self.assertEqual(coming.moments, tuple(stand for stand in stands if stand.code in moments), seed)
            self.is_tuple_throughout(coming.ends)
            self.is_tuple_throughout(coming.moments)
            to = {code: years for years, (new, _) in enumerate(rows) for code in new}
            ahead = {code: years for years, (_, new) in enumerate(rows) for code in new}
            for stand in stands:
                other = named(stand)
                self.assertEqual(coming.years_to(other), to.get(stand.code))
                self.assertEqual(coming.years_ahead(other), ahead.get(stand.code))
                self.assertIs(coming.is_end(other), stand.code in ends)
                self.assertIs(coming.is_moment(other), stand.code in moments)

    def test_histories_to_all_ends(self):
        for seed, custom in small_customs(70):
            coming = coming_stands(custom)
            for stand in all_stands(custom):
                other = named(stand)
                if not coming.is_end(stand):
                    self.refuses((NoStand,), coming.history_to, other)
                    continue
                history = coming.history_to(other)
                self.assertEqual(history.kinds, custom.kinds)
                self.assertEqual(len(history), coming.years_to(other))
                self.assertEqual(told_ends(custom, history)[-1], other)
                self.assertEqual(coming.history_to(other, exactly=None), history)

    def test_ways_to_all_moments(self):
        for seed, custom in small_customs(70):
            coming = coming_stands(custom)
            for stand in all_stands(custom):
                other = named(stand)
                if not coming.is_moment(stand):
                    self.refuses((NoStand,), coming.way_to, other)
                    continue
                history, deeds = coming.way_to(other)
                self.assertIs(type(deeds), tuple)
                self.assertEqual(len(history), coming.years_ahead(other))
                self.assertEqual(self.led(custom, history, deeds), other)

    def led(self, custom, history, deeds):
        stand = told_ends(custom, history)[-1]
        for deed in deeds:
            self.assertIsNone(custom.kinds.fault(deed))
            stand = told_after(custom, stand, deed)
        return stand

    def test_just_so_many_years(self):
        for seed, custom in small_customs(50):
            coming = coming_stands(custom)
            lots = [{custom.start.code}]
            for _ in range(5):
                reached = told_closure(custom, lots[-1], custom.kinds.names)
                lots.append({told_plain(told_end(custom, Stand(*code))).code for code in reached})
            stands = list(all_stands(custom))
            for years in EXACT:
                self.assertEqual(stands_after(custom, years), tuple(one for one in stands if one.code in lots[years]))
                for stand in stands[::3]:
                    if stand.code not in lots[years]:
                        self.refuses((NoStand,), coming.history_to, named(stand), exactly=years)
                        continue
                    history = coming.history_to(named(stand), exactly=years)
                    self.assertEqual(len(history), years)
                    self.assertEqual(told_ends(custom, history)[-1], named(stand))

    def test_two_hundred_years(self):
        coming = coming_stands(RING)
        for stand in stands_after(RING, 200):
            history = coming.history_to(named(stand), exactly=200)
            self.assertEqual(len(history), 200)
            self.assertEqual(stand_at(RING, history), named(stand))
        self.refuses((NoStand,), coming.history_to, RING.start, exactly=200)

    def test_others_have_other_names(self):
        custom = clocked_custom(1, 2, kinds=[("x", 2)], clauses=[
            Clause("x", [Is("p", "nobody")], [Put("p", "first")]),
            Clause("x", [Is("q", "nobody"), IsNot("p", "second")], [Put("q", "p"), Put("p", "nobody")])])
        coming = coming_stands(custom)
        for persons in (("b", "a"), ("a", "b"), ("c", "d"), ("zed", "zed")):
            stand = Stand("r", persons)
            history, deeds = coming.way_to(stand)
            self.assertEqual(self.led(custom, history, deeds), stand)
        history = coming.history_to(Stand("r", [None, "a"]))
        self.assertEqual(told_ends(custom, history)[-1], Stand("r", [None, "a"]))

    def test_refused_stands(self):
        custom = clocked_custom(1, 2, 3)
        coming = coming_stands(custom)
        for word, stand in fault_words(custom):
            for call in (coming.is_end, coming.is_moment, coming.years_to, coming.years_ahead, coming.history_to,
                         coming.way_to):
                self.refuses((BadStand, word), call, stand)
            self.refuses((BadStand, word), coming.history_to, stand, exactly=-1)

    def test_refused_years(self):
        coming = coming_stands(plain_custom())
        never = Stand("free", ["ann"], [(0, False)])
        for years in [one for one in (*NO_WHOLES, -1, 201, 10 ** 30) if one is not None]:
            self.refuses((BadYears, years), coming.history_to, never, exactly=years)
        self.refuses((NoStand,), coming.history_to, never, exactly=0)
        self.refuses((NoStand,), coming.history_to, never, exactly=200)

    def test_just_400_stands_and_more(self):
        custom = clocked_custom(1, 2, 39)
        self.assertEqual(custom.most_stands, 400)
        self.assertEqual(len(coming_stands(custom).ends), 40)
        self.assertEqual(len(stands_after(custom, 7)), 1)
        more = clocked_custom(1, 2, 40)
        self.refuses((TooMany, 410), coming_stands, more)
        self.refuses((TooMany, 410), stands_after, more, 7)
        self.refuses((BadYears, -1), stands_after, more, -1)

    def test_no_clock_and_two_clocks(self):
        self.assertEqual(coming_stands(clocked_custom(2, 3)).ends, (Stand("r", [None] * 3),))
        custom = clocked_custom(1, 1, 1, 2, clauses=[Clause("x", [], [Halt("k"), Run("l"), Zero("l")])])
        _, ends, moments = told_coming(custom)
        self.assertEqual((len(coming_stands(custom).ends), len(coming_stands(custom))), (len(ends), len(moments)))


class AfterTest(Case):
    def test_long_rings(self):
        # Two clocks whose rings have 5 and 7 years come round together in 35.
        custom = Custom(Kinds([("x", 0)]), ["r"], ["p"], [("k", 4, True), ("l", 6, True)], [
            Clause("year", [AtLeast("k", 4), AtLeast("l", 6)], [Zero("k"), Zero("l")]),
            Clause("year", [AtLeast("k", 4)], [Zero("k")]), Clause("year", [AtLeast("l", 6)], [Zero("l")])])
        stands = [custom.start]
        for _ in range(300):
            stands.append(told_end(custom, stands[-1]))
        ring = next(back for back in range(1, 200) if stands[100] == stands[100 + back])
        for years in (0, 1, 4, 24, 99, 100):
            self.assertEqual(stands_after(custom, years), (stands[years],))
        for years in (10 ** 18, 10 ** 18 - 1, 10 ** 9 + 7, 2 ** 59, 299):
            self.assertEqual(stands_after(custom, years), (stands[100 + (years - 100) % ring],))

    def test_refused_years(self):
        for years in (*NO_WHOLES, -1, 10 ** 18 + 1):
            self.refuses((BadYears, years), stands_after, plain_custom(), years)


class LeavingTest(Case):
    def test_a_closed_lot(self):
        for seed, custom in small_customs(60):
            coming = coming_stands(custom)
            self.assertIsNone(leaving(custom, [named(stand) for stand in coming.moments]))
            self.assertIsNone(leaving(custom, tuple(all_stands(custom))))
            for place in range(0, len(coming), 3):
                kept = [stand for at, stand in enumerate(coming.moments) if at != place]
                self.assertIsNotNone(leaving(custom, kept))

    def told_leaving(self, custom, stands):
        lot = {told_plain(stand).code for stand in stands}
        if custom.start.code not in lot:
            return Leaving(None, None, custom.start)
        for stand in stands:
            for deed in (*deeds_over(custom.kinds, stand.persons), None):
                behind = told_end(custom, stand) if deed is None else told_after(custom, stand, deed)
                if told_plain(behind).code not in lot:
                    return Leaving(stand, deed, behind)
        return None

    def test_the_first_step_out(self):
        seen = set()
        for seed, custom in small_customs(150):
            stands = [custom.start, *[random_stand(10 * seed + place, custom) for place in range(seed % 5)]]
            stands += [Stand(*code) for code in sorted(told_closure(custom, [custom.start.code], custom.kinds.names), key=str)]
            for lot in (stands, stands[::-1], [one for one in stands if one != custom.start], stands[:1], stands * 2):
                found = leaving(custom, lot)
                self.assertEqual(found, self.told_leaving(custom, lot), seed)
                seen.add(None if found is None else (found.stand is None, found.deed is None))
        self.assertEqual(seen, {None, (True, True), (False, True), (False, False)})

    def test_names_of_the_stand_and_the_deed(self):
        custom = plain_custom()
        lot = [custom.start, Stand("free", ["zed"], [(0, True)]), Stand("free", [None], [(1, True)])]
        found = leaving(custom, lot)
        self.assertEqual((found.stand, found.deed, found.behind), (
            lot[1], None, Stand("free", ["zed"], [(1, True)])))
        found = leaving(custom, lot[:1])
        self.assertEqual(found, Leaving(custom.start, ("takes", "a"), Stand("free", ["a"], [(0, True)])))

    def test_without_the_start(self):
        custom = plain_custom()
        for lot in ([], (), [Stand("free", ["a"], [(0, True)])]):
            self.assertEqual(leaving(custom, lot), Leaving(None, None, custom.start))

    def test_refused_stands(self):
        custom = clocked_custom(1, 2, 3)
        for word, stand in fault_words(custom):
            self.refuses((BadStand, word), leaving, custom, [custom.start, stand, None])
            self.refuses((BadStand, word), leaving, custom, (stand,))

    def test_of_any_size(self):
        custom = wide_custom()
        self.assertGreater(custom.most_stands, 400)
        self.assertEqual(leaving(custom, [custom.start]).stand, custom.start)

    def test_equal_by_all_three(self):
        one, other = Stand("r", ["a"]), Stand("r", ["b"])
        self.same_only(lambda: Leaving(one, ("x",), other), [
            Leaving(other, ("x",), other), Leaving(one, ("y",), other), Leaving(one, None, other),
            Leaving(one, ("x",), one), Leaving(None, ("x",), other)])

    def test_keeps_nothing(self):
        self.keeps_nothing(lambda stands: leaving(plain_custom(), stands), [plain_custom().start])


if __name__ == "__main__":
    unittest.main()
