import random
import unittest

from searchback.clauses import AtLeast, Below, Clause, InRoom, Is, IsNot, Put, ToRoom, Zero
from searchback.customs import Custom
from searchback.errors import BadPerson, BadSeat, BadStand, NoRow, TooMany
from searchback.getting import getting
from searchback.kinds import Kinds
from searchback.planfaults import getting_fault
from searchback.plans import Gets, Never
from searchback.rounds import ends_of_rounds, marked_stands
from searchback.stand import Stand
from tests.games import Game, told_rows_of_deeds
from tests.helpers import NO_LABELS, Case, clocked_custom
from tests.test_keeping import drawn, drawn_customs, far_named


def waiting_custom(cap, *more):
    """Whoever claims the thing behind so many years without a deed has it; others can only wake the clock."""
    return Custom(Kinds([("claims", 1), ("wakes", 1)]), ["r", "s"], ["owner"], [("k", cap, True)], [
        Clause("claims", [AtLeast("k", cap)], [Put("owner", "first")]), *more])


class GettingTest(Case):
    def test_written_plans(self):
        for cap in (1, 2, 40):
            custom = waiting_custom(cap)
            for shown in range(cap + 1):
                paper = getting(custom, Stand("r", ["b"], [(shown, True)]), "owner", "a")
                self.assertEqual((type(paper), paper.years), (Gets, cap - shown + 1))
                self.assertIs(type(getting(custom, Stand("r", [None], [(0, False)]), "owner", "a")), Never)
            # Others wake the clock each year, or only while it shows little.
            woken = waiting_custom(cap, Clause("wakes", [IsNot("owner", "first")], [Zero("k")]))
            self.assertIs(type(getting(woken, Stand("r", ["b"], [(cap, True)]), "owner", "a")), Never)
        woken = waiting_custom(9, Clause("wakes", [Below("k", 2)], [Zero("k")]))
        for shown in range(10):
            paper = getting(woken, Stand("r", ["b"], [(shown, True)]), "owner", "a")
            self.assertEqual((type(paper), getattr(paper, "years", None)), (Gets, 10 - shown) if shown > 1 else (Never, None))

    def test_who_sits_has_it_at_once(self):
        custom = clocked_custom(1, 2, kinds=[("x", 1)])
        for stand in (Stand("r", ["a", None]), Stand("r", ["a", "b"]), Stand("r", ["a", "a"])):
            paper = getting(custom, stand, "p", "a")
            self.assertEqual((type(paper), paper.years), (Gets, 0))
            self.assertIsNone(getting_fault(custom, stand, "p", "a", paper))
        for person in ("a", "b", "zed"):
            paper = getting(custom, Stand("r", ["c", None]), "q", person)
            self.assertIs(type(paper), Never)
            self.assertIsNone(getting_fault(custom, Stand("r", ["c", None]), "q", person, paper))

    def test_to_sit_amid_a_year_is_not_enough(self):
        custom = clocked_custom(2, 1, kinds=[("x", 1), ("y", 0)], clauses=[
            Clause("x", [], [Put("p", "first")]), Clause("y", [], [ToRoom("s")]),
            Clause("year", [InRoom("r")], [Put("p", "nobody")])])
        self.assertIs(type(getting(custom, Stand("r", ["b"]), "p", "a")), Never)
        paper = getting(custom, Stand("s", ["b"]), "p", "a")
        self.assertEqual((type(paper), paper.years), (Gets, 1))
        # Others can put the person into the seat amid the year, and it still has to act.
        custom = clocked_custom(2, 1, kinds=[("x", 1), ("give", 2)], clauses=[
            Clause("give", [], [Put("p", "second"), ToRoom("r")]), Clause("x", [], [Put("p", "first"), ToRoom("s")]),
            Clause("year", [InRoom("r")], [Put("p", "nobody")])])
        paper = getting(custom, Stand("r", ["b"]), "p", "a")
        self.assertEqual((type(paper), paper.years), (Gets, 1))
        self.assertEqual(paper.own_row(Stand("r", ["a"]), "a"), (("x", "a"),))

    def test_a_seat_in_which_nobody_ever_sits(self):
        custom = clocked_custom(2, 2, 1, kinds=[("x", 1)], clauses=[Clause("x", [], [Put("p", "first"), ToRoom("s")])])
        self.assertIs(type(getting(custom, custom.start, "q", "a")), Never)
        self.assertEqual(getting(custom, custom.start, "p", "a").years, 1)

    def test_against_a_plain_search(self):
        met = set()
        written = [(0, waiting_custom(3), "owner", "x"), (1, waiting_custom(
            3, Clause("wakes", [Is("owner", "first"), Below("k", 2)], [Zero("k")])), "owner", "b")]
        for seed, custom, seat, person in (*written, *drawn_customs(160)):
            game = Game(custom, seat, person)
            got = game.got()
            empty = [code for code in game.codes if not game.sits(code)]
            some = drawn(seed, game.codes)[:1] + drawn(seed, empty) + drawn(seed, sorted(got, key=repr))[:2]
            for code in game.codes if custom.seats == ("owner",) else some:
                stand = far_named(seed, Stand(*code), person)
                paper = getting(custom, stand, seat, person)
                self.assertEqual(getattr(paper, "years", None), got.get(code), seed)
                self.assertIs(type(paper), Gets if code in got else Never)
                self.assertIsNone(game.getting_fault(stand, paper))
                self.assertIsNone(getting_fault(custom, stand, seat, person, paper))
                self.is_tuple_throughout(paper.rows)
                met.add(got.get(code))
        self.assertLessEqual({None, 0, 1, 2, 3, 4}, met)

    def test_renaming_renames_alike(self):
        for seed, custom, seat, person in drawn_customs(40):
            for stand in marked_stands(custom, person)[seed % 4::9]:
                names = dict(zip((person, *[one for one in stand.persons if one != person]), ("k", "a", "zed", "x")))
                one = getting(custom, stand, seat, person)
                other = getting(custom, stand.renamed(names), seat, "k")
                self.assertIs(type(one), type(other))
                self.assertEqual(getattr(one, "years", None), getattr(other, "years", None))


class PlayingTest(Case):
    """Plans that are played against any rows keep what they say."""

    def test_who_gets_the_seat_has_it_in_time(self):
        lengths = set()
        for seed, custom, seat, person in drawn_customs(200):
            rnd = random.Random(seed)
            place = custom.seats.index(seat)
            for start in drawn(seed, list(marked_stands(custom, person))):
                stand = far_named(seed, start, person)
                paper = getting(custom, stand, seat, person)
                years = 0
                while isinstance(paper, Gets) and stand.seats[place] != person:
                    others = []
                    moment = stand
                    for _ in range(rnd.choice((0, 1, 1, 2, 4))):
                        deeds = told_rows_of_deeds(custom, moment, person)[0]
                        if deeds:
                            others.append(rnd.choice(deeds))
                            moment = custom.after(moment, others[-1])
                    stand = ends_of_rounds(custom, stand, person, [(others, paper.own_row(moment, person))])[0]
                    years += 1
                    self.assertLessEqual(years, paper.years)
                lengths.add(years)
        self.assertLessEqual({0, 1}, lengths)

    def test_who_never_gets_the_seat_never_sits(self):
        played = 0
        for seed, custom, seat, person in drawn_customs(100):
            rnd = random.Random(seed)
            place = custom.seats.index(seat)
            for start in drawn(seed, list(marked_stands(custom, person))):
                stand = far_named(seed, start, person)
                paper = getting(custom, stand, seat, person)
                for _ in range(6 if isinstance(paper, Never) else 0):
                    others = paper.others_row(stand, person)
                    moment = stand
                    for deed in others:
                        moment = custom.after(moment, deed)
                    own = []
                    for _ in range(rnd.choice((0, 1, 1, 2, 3))):
                        deeds = told_rows_of_deeds(custom, moment, person)[1]
                        if deeds:
                            own.append(rnd.choice(deeds))
                            moment = custom.after(moment, own[-1])
                    stand = ends_of_rounds(custom, stand, person, [(others, own)])[0]
                    self.assertNotEqual(stand.seats[place], person)
                    played += 1
        self.assertGreater(played, 100)

    def test_stands_to_which_the_plan_does_not_lead(self):
        custom = waiting_custom(2)
        paper = getting(custom, Stand("r", ["b"], [(0, True)]), "owner", "a")
        self.refuses((NoRow,), paper.own_row, Stand("s", ["b"], [(0, True)]), "a")
        self.assertEqual(paper.own_row(Stand("r", ["zed"], [(0, True)]), "a"), ())
        self.assertEqual(paper.own_row(Stand("r", ["zed"], [(2, True)]), "a"), (("claims", "a"),))
        self.refuses((NoRow,), paper.own_row, Stand("r", ["a"], [(2, True)]), "zed")


class ErrorsTest(Case):
    def test_errors_in_order(self):
        big, small = clocked_custom(1, 2, 40), clocked_custom(1, 2, 39)
        for call in (getting, lambda *args: getting_fault(*args, None)):
            for custom in (big, small):
                for word, bad in [("stand", None), ("stand", ("r", (None,), ())), ("room", Stand("s", [None])),
                                  ("seats", Stand("r", [None])), ("clocks", Stand("r", [None, None]))]:
                    self.refuses((BadStand, word), call, custom, bad, "z", "A")
                self.refuses((BadStand, "number"), call, small, Stand("r", [None, None], [(40, True)]), "z", "A")
                for seat in (*NO_LABELS, "o", "first", "nobody", "k", "r"):
                    self.refuses((BadSeat, seat), call, custom, custom.start, seat, "A")
                for person in NO_LABELS:
                    self.refuses((BadPerson, person), call, custom, custom.start, "p", person)
            self.refuses((TooMany, 410), call, big, big.start, "p", "a")
            call(small, small.start, "p", "a")


if __name__ == "__main__":
    unittest.main()
