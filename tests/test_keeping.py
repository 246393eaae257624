import random
import unittest

from searchback.bearing import narrowed
from searchback.clauses import AtLeast, Clause, InRoom, Is, IsNot, Put, ToRoom, Zero
from searchback.customs import Custom
from searchback.errors import BadPerson, BadRest, BadSeat, BadStand, NoRow, TooMany
from searchback.getting import getting
from searchback.keeping import Always, NoRest, Rest, greatest_rest, kept_stands, keeping
from searchback.kinds import Kinds
from searchback.planfaults import keeping_fault
from searchback.plans import Gets, Keeps, Loses, Never
from searchback.questions import Who
from searchback.rounds import ends_of_rounds, marked_stand, marked_stands
from searchback.stand import Stand
from tests.games import Game, told_rows_of_deeds
from tests.helpers import (
    NO_LABELS, NO_WHOLES, Case, clocked_custom, fading_custom, guarded_custom, lively_custom, random_custom,
)


def owned_custom(cap=3):
    """The custom of the example of part 7."""
    return Custom(Kinds([("renews", 1), ("takes", 1)]), ["r"], ["owner"], [("k", cap, True)], [
        Clause("renews", [Is("owner", "first")], [Zero("k")]),
        Clause("takes", [Is("owner", "nobody")], [Put("owner", "first"), Zero("k")]),
        Clause("year", [AtLeast("k", cap)], [Put("owner", "nobody")])])


def hurried_custom(cap):
    """Others can open the seat for good; the person can only shut it while the clock runs low."""
    return Custom(Kinds([("opens", 1), ("shuts", 1)]), ["calm", "loud"], ["owner"], [("k", cap, True)], [
        Clause("opens", [IsNot("owner", "first")], [ToRoom("loud")]),
        Clause("shuts", [Is("owner", "first")], [ToRoom("calm"), Zero("k")]),
        Clause("year", [InRoom("loud"), AtLeast("k", cap)], [Put("owner", "nobody")])])


def drawn_customs(many, most=60):
    """Customs of few stands, each with a number for more choices, a seat and a person."""
    for seed in range(many):
        custom = (guarded_custom, guarded_custom, lively_custom, fading_custom)[seed % 4](seed)
        if seed % 8 == 7:
            custom = random_custom(seed, cap=1)
        if custom.most_stands <= most:
            rnd = random.Random(seed)
            yield seed, custom, rnd.choice(custom.seats), rnd.choice(("a", "b", "x", "zed"))


def drawn(seed, codes):
    return random.Random(seed).sample(codes, min(4, len(codes)))


def far_named(seed, stand, person):
    """The stand with all others called by far names, and by one near one."""
    others = [other for other in stand.persons if other != person]
    labels = [label for label in ("c", "a", "b", "ann", "zz") if label != person]
    random.Random(seed).shuffle(labels)
    return stand.renamed({person: person, **dict(zip(others, labels))})


class KeepingTest(Case):
    def test_the_example(self):
        custom, start = owned_custom(), Stand("r", ["x"], [(0, True)])
        self.assertEqual(greatest_rest(custom, start, "owner", "x"), Rest(1))
        for rest in (0, 1):
            paper = keeping(custom, start, "owner", "x", rest=rest)
            self.assertIs(type(paper), Keeps)
            self.assertEqual(paper.rest, rest)
        paper = keeping(custom, start, "owner", "x", rest=2)
        self.assertIs(type(paper), Loses)
        self.assertEqual((paper.rest, paper.years), (2, 3))
        # It is hindered in the second and the third year.
        stand, hindered, told = start, 0, []
        while stand.seats == ("x",):
            others, hinder = paper.others_row(stand, "x", hindered)
            told.append(hinder)
            stand = ends_of_rounds(custom, stand, "x", [(others, None if hinder else [("renews", "x")])])[0]
            hindered = hindered + 1 if hinder else 0
        self.assertEqual(told[-2:], [True, True])
        self.assertLessEqual(len(told), 3)
        self.assertEqual(keeping(custom, start, "owner", "x", rest=3).years, 3)

    def test_the_example_with_other_caps(self):
        for cap in (1, 2, 3, 7, 40):
            custom = owned_custom(cap)
            for shown in range(cap):
                stand = Stand("r", ["x"], [(shown, True)])
                rest = min(cap - 2, cap - 1 - shown)
                self.assertEqual(greatest_rest(custom, stand, "owner", "x"), NoRest() if cap == 1 else Rest(rest))
                self.assertEqual(keeping(custom, stand, "owner", "x", rest=500).years, cap - shown)
            kept = kept_stands(custom, "owner", "x", rest=cap // 2)
            shows = [shown for shown in range(cap + 1) if cap // 2 <= min(cap - 2, cap - 1 - shown)]
            running = [Stand("r", ["x"], [(shown, True)]) for shown in shows]
            # A halted clock does not go up, and one that shows the cap can be set back by who is not hindered.
            halted = [Stand("r", ["x"], [(shown, False)]) for shown in range(cap if cap > 1 else 2)]
            self.assertEqual({stand.code for stand in kept}, {stand.code for stand in (*running, *halted)})

    def test_who_does_not_sit_loses_at_once(self):
        custom = clocked_custom(1, 2, kinds=[("x", 1)], clauses=[Clause("x", [], [Put("p", "first")])])
        for stand in (Stand("r", [None, None]), Stand("r", ["b", "a"]), Stand("r", [None, "a"])):
            paper = keeping(custom, stand, "p", "a", rest=7)
            self.assertEqual((type(paper), paper.years, paper.rows, paper.rest), (Loses, 0, (), 7))
            self.assertEqual(greatest_rest(custom, stand, "p", "a"), NoRest())
            self.assertIsNone(keeping_fault(custom, stand, "p", "a", paper, rest=7))
        for rest in (0, 1, 500):
            self.assertIs(type(keeping(custom, Stand("r", ["a", "a"]), "q", "a", rest=rest)), Keeps)

    def test_one_who_can_answer_when_not_hindered(self):
        custom = clocked_custom(1, 2, kinds=[("x", 1)], clauses=[Clause("x", [], [Put("p", "first")])])
        stand = Stand("r", ["a", "a"])
        self.assertIs(type(keeping(custom, stand, "p", "a")), Keeps)
        self.assertEqual(keeping(custom, stand, "p", "a", rest=1).years, 1)
        self.assertEqual(greatest_rest(custom, stand, "p", "a"), Rest(0))
        self.assertEqual(greatest_rest(custom, stand, "q", "a"), Always())
        self.assertEqual(kept_stands(custom, "p", "a"), tuple([
            stand for stand in marked_stands(custom, "a") if stand.seats[0] == "a"]))
        self.assertEqual(kept_stands(custom, "p", "a", rest=1), ())

    def test_a_level_above_0(self):
        for cap in (2, 5):
            custom = hurried_custom(cap)
            for shown in range(cap):
                stand = Stand("calm", ["x"], [(shown, True)])
                self.assertEqual(greatest_rest(custom, stand, "owner", "x"), Rest(min(cap - 2, cap - 1 - shown)))
            paper = keeping(custom, Stand("calm", ["x"], [(0, True)]), "owner", "x", rest=cap - 2)
            self.assertEqual({level for _, level, _ in paper.rows}, set(range(cap - 1)))

    def test_ways_that_meet_again(self):
        # Whatever the person does in the first year, the second one leads to the same stand.
        custom = Custom(Kinds([("goes", 1)]), ["r", "s", "t"], ["owner"], [("k", 3, True)], [
            Clause("goes", [Is("owner", "first"), InRoom("r")], [ToRoom("s")]),
            Clause("year", [AtLeast("k", 3)], [Put("owner", "nobody")]), Clause("year", [AtLeast("k", 2)], [ToRoom("t")])])
        start = Stand("r", ["x"], [(0, True)])
        for rest in (0, 2):
            paper = keeping(custom, start, "owner", "x", rest=rest)
            self.assertEqual(paper.years, 3)
            self.assertIsNone(keeping_fault(custom, start, "owner", "x", paper, rest=rest))
        rows = keeping(custom, start, "owner", "x").rows
        self.assertEqual({row[0].code for row in rows}, {
            start.code, ("r", ("x",), ((1, True),)), ("s", ("x",), ((1, True),)), ("t", ("x",), ((2, True),))})
        self.assertEqual((len(rows), {row[1] for row in rows}), (4, {0}))

    def test_the_rest_is_0_if_none_is_asked(self):
        custom, start = owned_custom(), Stand("r", ["x"], [(0, True)])
        paper = keeping(custom, start, "owner", "x")
        self.assertEqual(paper.rest, 0)
        self.assertIsNone(keeping_fault(custom, start, "owner", "x", paper))
        self.assertEqual(keeping_fault(custom, start, "owner", "x", Keeps(1, paper.rows)), "rest")
        self.assertEqual(keeping_fault(custom, start, "owner", "x", Loses(1, 0, ())), "rest")
        self.assertEqual(kept_stands(custom, "owner", "x"), kept_stands(custom, "owner", "x", rest=0))
        self.assertNotEqual(kept_stands(custom, "owner", "x"), kept_stands(custom, "owner", "x", rest=1))

    def test_deeds_that_name_who_sits(self):
        # The owner must pay whoever sits in the other seat; the heir alone can call for the year's rent.
        custom = Custom(Kinds([("pays", 2), ("calls", 1)]), ["calm", "loud"], ["owner", "heir"], [], [
            Clause("pays", [Is("owner", "first"), Is("heir", "second")], [ToRoom("calm")]),
            Clause("calls", [Is("heir", "first")], [ToRoom("loud")]),
            Clause("year", [InRoom("loud")], [Put("owner", "nobody")])])
        for heir in ("a", "b", "ann", "zed"):
            stand = Stand("calm", ["x", heir])
            paper = keeping(custom, stand, "owner", "x")
            self.assertEqual(paper.own_row(Stand("loud", ["x", heir]), "x"), (("pays", "x", heir),))
            paper = keeping(custom, stand, "owner", "x", rest=1)
            self.assertEqual((paper.years, paper.others_row(stand, "x", 0)), (1, ((("calls", heir),), True)))
            self.assertIs(type(getting(custom, Stand("loud", [None, heir]), "owner", "x")), Never)
        self.assertIs(type(keeping(custom, Stand("calm", ["x", "x"]), "owner", "x", rest=500)), Keeps)
        self.assertIs(type(keeping(custom, Stand("calm", ["x", None]), "owner", "x", rest=500)), Keeps)

    def test_a_seat_in_which_nobody_ever_sits(self):
        custom = clocked_custom(2, 2, 1, kinds=[("x", 1)], clauses=[Clause("x", [], [Put("p", "first"), ToRoom("s")])])
        self.assertEqual(greatest_rest(custom, custom.start, "q", "a"), NoRest())
        self.assertEqual(keeping(custom, custom.start, "q", "a").years, 0)
        # Who sits there all the same is never put out.
        self.assertEqual(greatest_rest(custom, Stand("r", [None, "a"], [(0, True)]), "q", "a"), Always())
        kept = kept_stands(custom, "q", "a", rest=500)
        self.assertEqual(kept, tuple([stand for stand in marked_stands(custom, "a") if stand.seats[1] == "a"]))

    def test_against_a_plain_search(self):
        met = set()
        written = [(0, hurried_custom(3), "owner", "x"), (1, hurried_custom(4), "owner", "b"), (2, owned_custom(5), "owner", "a")]
        for seed, custom, seat, person in (*written, *drawn_customs(100)):
            game = Game(custom, seat, person)
            for rest in (0, 1, 2 + seed % 5):
                kept, lost = game.kept(rest), game.lost(rest)
                found = kept_stands(custom, seat, person, rest=rest)
                self.assertEqual([stand.code for stand in found], [code for code in game.codes if code in kept])
                self.is_tuple_throughout(found)
                sitting = [code for code in game.codes if game.sits(code)]
                for code in drawn(seed, game.codes)[:2] + drawn(seed, sitting) + sorted(kept, key=repr)[-1:]:
                    stand = far_named(seed, Stand(*code), person)
                    paper = keeping(custom, stand, seat, person, rest=rest)
                    if code in kept:
                        self.assertIs(type(paper), Keeps, seed)
                    else:
                        self.assertIs(type(paper), Loses, seed)
                        self.assertEqual(paper.years, lost[(code, 0)], seed)
                        met.add(paper.years)
                    self.assertEqual(paper.rest, rest)
                    self.assertIsNone(game.keeping_fault(stand, paper, rest))
                    self.assertIsNone(keeping_fault(custom, stand, seat, person, paper, rest=rest))
        self.assertLessEqual({0, 1, 2, 3}, met)

    def test_a_rest_above_the_number_of_marked_stands(self):
        for seed, custom, seat, person in drawn_customs(60, most=30):
            many = len(marked_stands(custom, person))
            kept = kept_stands(custom, seat, person, rest=many)
            self.assertEqual(kept_stands(custom, seat, person, rest=500), kept)
            self.assertEqual(kept_stands(custom, seat, person, rest=many + 1), kept)
            for stand in marked_stands(custom, person)[seed % 7::7]:
                papers = [keeping(custom, stand, seat, person, rest=rest) for rest in (many, many + 1, 500)]
                self.assertEqual(len({type(paper) for paper in papers}), 1)
                for paper, rest in zip(papers, (many, many + 1, 500)):
                    self.assertEqual(getattr(paper, "years", None), getattr(papers[0], "years", None))
                    self.assertIsNone(keeping_fault(custom, stand, seat, person, paper, rest=rest))

    def test_lesser_rests_are_easier(self):
        for seed, custom, seat, person in drawn_customs(60):
            kept = [kept_stands(custom, seat, person, rest=rest) for rest in range(5)]
            for more, less in zip(kept, kept[1:]):
                self.assertTrue(all(stand in more for stand in less))


class GreatestRestTest(Case):
    def test_results(self):
        self.same_only(lambda: Rest(3), [Rest(2), Always(), NoRest()])
        self.same_only(Always, [Rest(0), NoRest()])
        self.same_only(NoRest, [Rest(0), Always()])
        self.assertEqual([Rest(3).allows(rest) for rest in (0, 3, 4, 10 ** 30)], [True, True, False, False])
        self.assertEqual([Always().allows(rest) for rest in (0, 500, 10 ** 30)], [True] * 3)
        self.assertEqual([NoRest().allows(rest) for rest in (0, 1, 10 ** 30)], [False] * 3)
        for result in (Rest(2), Always(), NoRest()):
            self.assertIsInstance(result.allows(2), bool)
        self.assertEqual(Rest(7).years, 7)

    def test_against_a_plain_search(self):
        met = set()
        for seed, custom, seat, person in drawn_customs(120, most=40):
            game = Game(custom, seat, person)
            many = len(game.codes)
            kept = {rest: game.kept(rest) for rest in (0, 1, 2, 3, many)}
            for code in drawn(seed, game.codes) + sorted(kept[0], key=repr)[:2]:
                result = greatest_rest(custom, far_named(seed, Stand(*code), person), seat, person)
                met.add((type(result), getattr(result, "years", None)))
                for rest, codes in kept.items():
                    self.assertIs(result.allows(rest), code in codes, (seed, rest))
                if isinstance(result, Rest):
                    self.assertLess(result.years, many)
        self.assertLessEqual({(Always, None), (NoRest, None), (Rest, 0), (Rest, 1)}, met)

    def test_it_tells_what_keeping_tells(self):
        for seed, custom, seat, person in drawn_customs(40):
            for stand in marked_stands(custom, person)[seed % 5::11]:
                result = greatest_rest(custom, stand, seat, person)
                for rest in (0, 1, 2, 5, 500):
                    paper = keeping(custom, stand, seat, person, rest=rest)
                    self.assertIs(result.allows(rest), isinstance(paper, Keeps))

    def test_one_keeps_and_another_gets(self):
        met = 0
        for seed, custom, seat, person in drawn_customs(200):
            for stand in kept_stands(custom, seat, person)[seed % 2::3]:
                result = greatest_rest(custom, stand, seat, person)
                for other in ("q", *[one for one in stand.persons if one != person]):
                    paper = getting(custom, stand, seat, other)
                    if isinstance(paper, Gets):
                        self.assertIs(type(result), Rest)
                        self.assertLess(result.years, paper.years)
                        met += 1
        self.assertGreater(met, 10)


class StatementsTest(Case):
    def test_renaming_renames_alike(self):
        for seed, custom, seat, person in drawn_customs(40):
            for stand in marked_stands(custom, person)[seed % 4::9]:
                names = dict(zip((person, *[one for one in stand.persons if one != person]), ("k", "a", "zed", "x")))
                renamed = stand.renamed(names)
                for rest in (0, 2):
                    one = keeping(custom, stand, seat, person, rest=rest)
                    other = keeping(custom, renamed, seat, names[person], rest=rest)
                    self.assertIs(type(one), type(other))
                    self.assertEqual(getattr(one, "years", None), getattr(other, "years", None))
                self.assertEqual(greatest_rest(custom, stand, seat, person), greatest_rest(custom, renamed, seat, names[person]))
                self.assertEqual(len(kept_stands(custom, seat, person)), len(kept_stands(custom, seat, "k")))

    def test_only_what_bears_on_who_counts(self):
        for seed, custom, seat, person in drawn_customs(48):
            small = narrowed(custom, Who(seat))
            for stand in marked_stands(custom, person)[seed % 4::9]:
                room = stand.room if stand.room in small.rooms else small.rooms[0]
                seats = [stand.seats[custom.seats.index(one)] for one in small.seats]
                names = [clock[0] for clock in custom.clocks]
                narrow = Stand(room, seats, [stand.clocks[names.index(clock[0])] for clock in small.clocks])
                for rest in (0, 1, 3):
                    one = keeping(custom, stand, seat, person, rest=rest)
                    other = keeping(small, narrow, seat, person, rest=rest)
                    self.assertIs(type(one), type(other))
                    self.assertEqual(getattr(one, "years", None), getattr(other, "years", None))
                one, other = getting(custom, stand, seat, person), getting(small, narrow, seat, person)
                self.assertIs(type(one), type(other))
                self.assertEqual(getattr(one, "years", None), getattr(other, "years", None))
                self.assertEqual(greatest_rest(custom, stand, seat, person), greatest_rest(small, narrow, seat, person))


class PlayingTest(Case):
    """Plans that are played against any rows keep what they say."""

    def test_who_keeps_sits_at_every_end(self):
        played = 0
        for seed, custom, seat, person in drawn_customs(120):
            rnd = random.Random(seed)
            place = custom.seats.index(seat)
            rest = seed % 3
            for start in kept_stands(custom, seat, person, rest=rest)[:6]:
                stand = far_named(seed, start, person)
                paper = keeping(custom, stand, seat, person, rest=rest)
                hindered = 0
                for _ in range(8):
                    others = []
                    moment = stand
                    for _ in range(rnd.choice((0, 1, 1, 2, 4))):
                        others.append(rnd.choice(told_rows_of_deeds(custom, moment, person)[0] or [None]))
                        if others[-1] is None:
                            others.pop()
                        else:
                            moment = custom.after(moment, others[-1])
                    hinder = hindered < rest and rnd.random() < 0.7
                    own = None if hinder else paper.own_row(moment, person)
                    hindered = hindered + 1 if hinder else 0
                    stand = ends_of_rounds(custom, stand, person, [(others, own)])[0]
                    self.assertEqual(stand.seats[place], person, seed)
                    played += len(own or ())
        self.assertGreater(played, 200)

    def test_who_loses_does_not_sit_at_some_end(self):
        lengths = set()
        for seed, custom, seat, person in drawn_customs(200):
            rnd = random.Random(seed)
            place = custom.seats.index(seat)
            rest = seed % 4
            sitting = [stand for stand in marked_stands(custom, person) if stand.seats[place] == person]
            for start in rnd.sample(sitting, min(4, len(sitting))):
                stand = far_named(seed, start, person)
                paper = keeping(custom, stand, seat, person, rest=rest)
                hindered, years = 0, 0
                while isinstance(paper, Loses) and stand.seats[place] == person:
                    others, hinder = paper.others_row(stand, person, hindered)
                    self.assertFalse(hinder and hindered == rest)
                    hindered = hindered + 1 if hinder else 0
                    moment = stand
                    for deed in others:
                        moment = custom.after(moment, deed)
                    own = []
                    for _ in range(rnd.choice((0, 1, 1, 2, 3))):
                        own.append(rnd.choice(told_rows_of_deeds(custom, moment, person)[1] or [None]))
                        if own[-1] is None:
                            own.pop()
                        else:
                            moment = custom.after(moment, own[-1])
                    stand = ends_of_rounds(custom, stand, person, [(others, None if hinder else own)])[0]
                    years += 1
                    self.assertLessEqual(years, paper.years)
                lengths.add(years)
        self.assertLessEqual({0, 1, 2, 3}, lengths)

    def test_stands_to_which_the_plan_does_not_lead(self):
        custom = owned_custom()
        paper = keeping(custom, Stand("r", ["x"], [(0, True)]), "owner", "x", rest=1)
        self.refuses((NoRow,), paper.own_row, Stand("r", ["b"], [(0, True)]), "x")
        self.refuses((NoRow,), paper.own_row, Stand("r", ["x"], [(3, True)]), "x")


class ErrorsTest(Case):
    def calls(self, custom, stand, seat, person, rest):
        """Each call with the errors that it can raise of the stand, the seat, the person and the rest."""
        return [
            ("1111", lambda: keeping(custom, stand, seat, person, rest=rest)),
            ("1111", lambda: keeping_fault(custom, stand, seat, person, None, rest=rest)),
            ("1110", lambda: greatest_rest(custom, stand, seat, person)),
            ("0111", lambda: kept_stands(custom, seat, person, rest=rest)),
            ("0010", lambda: marked_stands(custom, person)),
            ("1010", lambda: marked_stand(None if stand is None else custom.start, person)),
        ]

    def test_errors_in_order(self):
        # The first of these that a call has is due, whatever is wrong behind it.
        for custom, many in ((clocked_custom(1, 2, 40), 410), (clocked_custom(1, 2, 39), None)):
            wrong = [(BadStand, "stand"), (BadSeat, "z"), (BadPerson, "A"), (BadRest, 501)]
            right = [custom.start, "p", "a", 500]
            bad = [None, "z", "A", 501]
            for first in range(5):
                for second in range(first + 1, 6):
                    things = [bad[at] if at in (first, second) else right[at] for at in range(4)]
                    for marks, call in self.calls(custom, *things):
                        due = [wrong[at] for at in (first, second) if at < 4 and marks[at] == "1"]
                        if due:
                            self.refuses(due[0], call)
                        elif many is not None and marks != "1010":
                            self.refuses((TooMany, many), call)
                        else:
                            call()

    def test_all_wrong_things(self):
        custom = clocked_custom(1, 1, 3)
        for word, bad in [("stand", ("r", (None,), ())), ("room", Stand("s", [None], [(0, True)])),
                          ("seats", Stand("r", [None, None], [(0, True)])), ("clocks", Stand("r", [None])),
                          ("number", Stand("r", [None], [(4, True)]))]:
            self.refuses((BadStand, word), keeping, custom, bad, "z", None, rest=None)
            self.refuses((BadStand, word), greatest_rest, custom, bad, "z", None)
        for seat in (*NO_LABELS, "q", "first", "nobody", "k", "r"):
            self.refuses((BadSeat, seat), keeping, custom, custom.start, seat, None, rest=None)
            self.refuses((BadSeat, seat), greatest_rest, custom, custom.start, seat, None)
            self.refuses((BadSeat, seat), kept_stands, custom, seat, None, rest=None)
        for person in NO_LABELS:
            self.refuses((BadPerson, person), keeping, custom, custom.start, "p", person, rest=None)
            self.refuses((BadPerson, person), greatest_rest, custom, custom.start, "p", person)
            self.refuses((BadPerson, person), kept_stands, custom, "p", person, rest=None)
        for rest in (*NO_WHOLES, -1, 501, 10 ** 20):
            self.refuses((BadRest, rest), keeping, custom, custom.start, "p", "a", rest=rest)
            self.refuses((BadRest, rest), kept_stands, custom, "p", "a", rest=rest)

    def test_just_400_stands(self):
        custom = Custom(Kinds([("x", 1), ("y", 2)]), ["r"], ["p"], [("k", 4, True), ("l", 9, False)], [
            Clause("x", [], [Put("p", "first")]), Clause("y", [Is("p", "first")], [Zero("k")]),
            Clause("year", [AtLeast("k", 4)], [Zero("l")])])
        self.assertEqual(custom.most_stands, 400)
        stand = Stand("r", ["a"], [(0, True), (0, True)])
        self.assertEqual(greatest_rest(custom, stand, "p", "a"), Rest(0))
        self.assertEqual(keeping(custom, stand, "p", "a", rest=500).years, 1)
        self.assertEqual(len(kept_stands(custom, "p", "a")), 200)
        self.assertIsNone(keeping_fault(custom, stand, "p", "a", keeping(custom, stand, "p", "a"), rest=0))


if __name__ == "__main__":
    unittest.main()
