import random
import unittest

from searchback.alike import alike_customs, covering
from searchback.alikefault import alike_fault, covers_fault
from searchback.clauses import AtLeast, Clause, InRoom, Put, ToRoom, Zero
from searchback.closed import Alike, Covers, Parting
from searchback.customs import Custom
from searchback.errors import BadQuestion, BadSeat, OtherKinds, OtherSeats, TooMany
from searchback.histories import History
from searchback.kinds import Kinds
from searchback.pairs import Pair
from searchback.questions import Filled, Reached, Room, Who
from searchback.searching import Found
from searchback.stand import Stand
from searchback.walks import answer_of
from tests.duos import told_duo_deeds, told_duo_end, told_parted
from tests.helpers import NO_LABELS, Case, Odd, clocked_custom, random_history, random_stand
from tests.test_alike import asked_of, drawn_duos


def told_fault(one, other, asked, found, covers):
    """The word of a table or a parting, its sentences written down one after another."""
    if isinstance(found, Parting):
        if found.history.kinds != one.kinds:
            return "kinds"
        if found.question not in asked:
            return "question"
        answers = [answer_of(custom, found.history, found.question) for custom in (one, other)]
        if [found.first, found.second] != answers:
            return "answers"
        return "same" if answers[0] == answers[1] or covers and answers[1] is None else None
    ends = [(pair.one.code, pair.other.code) for pair in found.ends]
    moments = [(pair.one.code, pair.other.code) for pair in found.moments]
    start = (one.start.code, other.start.code)
    if start not in ends or start not in moments:
        return "start"
    for pair in (*found.moments, *found.ends):
        if one.stand_fault(pair.one) or other.stand_fault(pair.other):
            return "stand"
    if not set(ends) <= set(moments):
        return "ends"
    if any(to not in moments for pair in moments for to in told_duo_deeds(one, other, pair)):
        return "deed"
    if any(told_duo_end(one, other, pair) not in ends for pair in moments):
        return "year"
    return "unlike" if any(told_parted(one, other, pair, question, covers) for pair in ends for question in asked) else None


class TableTest(Case):
    def setUp(self):
        # Under the first custom the thing is left in the room s; under both the person comes and stays.
        kinds = [("x", 1)]
        self.one = clocked_custom(2, 1, kinds=kinds, clauses=[Clause("x", [], [Put("p", "first"), ToRoom("s")])])
        self.other = clocked_custom(2, 1, kinds=kinds, clauses=[Clause("x", [InRoom("r")], [Put("p", "first")])])
        self.start = Pair(self.one.start, self.other.start)
        self.held = Pair(Stand("s", ["a"]), Stand("r", ["a"]))

    def judged(self, word, ends, moments, asked=(Who("p"),)):
        self.assertEqual(alike_fault(self.one, self.other, asked, Alike(ends, moments)), word)
        if list(asked) == [Who("p")]:
            self.assertEqual(covers_fault(self.one, self.other, "p", Covers(ends, moments)), word)

    def test_right_tables(self):
        both = [self.start, self.held]
        self.judged(None, both, both)
        self.judged(None, both[::-1], both[::-1])
        self.judged(None, [self.start, Pair(Stand("s", ["zed"]), Stand("r", ["zed"]))], both, [Filled("p")])
        # A larger table is right, too, if it is closed.
        far = Pair(Stand("s", ["a"]), Stand("s", ["a"]))
        self.judged("deed", [*both, far], [*both, far])
        more = [far, Pair(Stand("s", ["a"]), Stand("s", ["b"]))]
        self.judged("unlike", [*both, *more], [*both, *more])
        self.judged(None, [*both, *more], [*both, *more], [Filled("p")])

    def test_each_word(self):
        both = [self.start, self.held]
        self.judged("start", [self.held], both)
        self.judged("start", both, [self.held])
        self.judged("start", [], [])
        for far in (Pair(Stand("t", ["a"]), Stand("r", ["a"])), Pair(Stand("r", ["a"]), Stand("t", ["a"])),
                    Pair(Stand("s", ["a", "a"]), Stand("r", ["a"])), Pair(Stand("s", ["a"]), Stand("r", ["a"], [(0, True)]))):
            self.judged("stand", [*both, far], both)
            self.judged("stand", both, [*both, far])
        self.judged("ends", both, [self.start])
        self.judged("deed", [self.start], [self.start])
        self.judged("year", [self.start], both)
        self.judged("unlike", both, both, [Room()])
        self.judged("unlike", both, both, [Who("p"), Room()])
        self.judged("unlike", both, both, [])
        self.judged(None, both, both, [Who("p"), Filled("p")])

    def test_two_words_at_once(self):
        far = Pair(Stand("t", ["a"]), Stand("r", ["a"]))
        self.judged("start", [self.held, far], [self.start])
        self.judged("stand", [self.start, self.held, far], [self.start])
        self.judged("ends", [self.start, self.held], [self.start], [Room()])
        self.judged("deed", [self.start], [self.start, Pair(Stand("s", [None]), Stand("r", [None]))], [Room()])
        self.judged("year", [self.start], [self.start, self.held], [Room()])

    def test_where_only_covering_is_right(self):
        kinds = [("x", 1)]
        keeps = clocked_custom(1, 1, kinds=kinds, clauses=[Clause("x", [], [Put("p", "first")])])
        loses = keeps.with_clauses([*keeps.clauses, Clause("year", [], [Put("p", "nobody")])])
        table = covering(keeps, loses, "p")
        self.assertIsNone(covers_fault(keeps, loses, "p", table))
        self.assertEqual(alike_fault(keeps, loses, [Who("p")], Alike(table.ends, table.moments)), "unlike")
        turned = Covers([pair.swapped() for pair in table.ends], [pair.swapped() for pair in table.moments])
        self.assertEqual(covers_fault(loses, keeps, "p", turned), "unlike")

    def test_other_things(self):
        both = [self.start, self.held]
        for thing in (None, Odd(), (), 3, "found", Covers(both, both), Found(0, None, None), both):
            self.assertEqual(alike_fault(self.one, self.other, [Who("p")], thing), "found")
        for thing in (None, Odd(), (), 3, "found", Alike(both, both), Found(0, None, None), both):
            self.assertEqual(covers_fault(self.one, self.other, "p", thing), "found")


class PartingTest(Case):
    def setUp(self):
        kinds = [("x", 1)]
        self.one = clocked_custom(2, 1, 2, kinds=kinds, clauses=[Clause("x", [], [Put("p", "first"), ToRoom("s"), Zero("k")])])
        self.other = clocked_custom(2, 1, 2, kinds=kinds, clauses=[
            Clause("x", [], [Put("p", "first"), Zero("k")]), Clause("year", [AtLeast("k", 2)], [Put("p", "nobody")])])
        self.kinds = self.one.kinds

    def judged(self, word, years, question, first, second, asked=(Room(), Who("p"))):
        found = Parting(History(self.kinds, years), question, first, second)
        self.assertEqual(alike_fault(self.one, self.other, list(asked), found), word)

    def covered(self, word, years, question, first, second, turned=False):
        pair = (self.other, self.one) if turned else (self.one, self.other)
        found = Parting(History(self.kinds, years), question, first, second)
        self.assertEqual(covers_fault(*pair, "p", found), word)

    def test_each_word(self):
        year = [("x", "ann")]
        self.judged(None, [year], Room(), "s", "r")
        self.judged(None, [year, [], []], Room(), "s", "r")
        self.judged(None, [year, []], Who("p"), "ann", None)
        self.judged(None, [year], Room(), "s", "r", ())
        self.judged("question", [year, []], Filled("p"), True, False)
        self.judged("question", [year], Room(), "s", "r", [Who("p")])
        self.judged("question", [year], None, "s", "r")
        self.judged("answers", [year], Room(), "r", "s")
        self.judged("answers", [year], Room(), "s", "s")
        self.judged("answers", [year, []], Who("p"), "bob", None)
        self.judged("answers", [year, []], Who("p"), "ann", "ann")
        self.judged("answers", [[]], Room(), "s", "r")
        self.judged("same", [[]], Room(), "r", "r")
        self.judged("same", [year], Who("p"), "ann", "ann")
        self.kinds = Kinds([("x", 1), ("y", 0)])
        self.judged("kinds", [year], Room(), "s", "r")
        self.judged("kinds", [year], Filled("p"), 1, 2)
        self.judged("kinds", [], Room(), "s", "r")

    def test_covering(self):
        year = [("x", "ann")]
        self.covered(None, [year, []], Who("p"), None, "ann", True)
        self.covered("same", [year, []], Who("p"), "ann", None)
        self.covered("same", [year], Who("p"), "ann", "ann")
        self.covered("same", [], Who("p"), None, None)
        self.covered("answers", [year, []], Who("p"), None, "ann")
        self.covered("question", [year], Room(), "s", "r")
        self.covered("question", [year], Who("q"), "ann", None)
        self.kinds = Kinds([("y", 1)])
        self.covered("kinds", [], Room(), "s", "r")

    def test_two_words_at_once(self):
        self.judged("question", [[("x", "ann")]], Filled("p"), False, False)
        self.judged("answers", [[("x", "ann")]], Who("p"), "bob", "bob")


class ChangedTest(Case):
    """What was found with something changed, against the sentences written down a second time."""

    def changed(self, rnd, one, other, found):
        if isinstance(found, Parting):
            things = [found.history, found.question, found.first, found.second]
            for _ in range(rnd.choice((1, 1, 2))):
                choice = rnd.randrange(5)
                if choice == 0:
                    things[0] = rnd.choice((random_history(rnd.random(), one.kinds, 3), History(Kinds([("q", 1)]))))
                elif choice == 1:
                    things[1] = rnd.choice((Who("p"), Room(), Filled("p"), Who("far"), Reached("k", 1)))
                elif choice in (2, 3):
                    things[choice] = rnd.choice((None, True, False, "a", "r", things[5 - choice]))
                else:
                    question = rnd.choice((Who("p"), Room()))
                    answers = [answer_of(custom, things[0], question) for custom in (one, other)
                               if things[0].kinds == custom.kinds]
                    things[1:] = [question, *(answers or (None, None))]
            return Parting(*things)
        ends, moments = list(found.ends), list(found.moments)
        for _ in range(rnd.choice((1, 1, 2))):
            choice = rnd.randrange(4)
            rows = rnd.choice((ends, moments))
            if choice in (0, 1) and rows:
                rows.pop(rnd.randrange(len(rows)) if choice else -1)
            else:
                pair = Pair(random_stand(rnd.random(), one), random_stand(rnd.random(), other))
                if rnd.random() < 0.2:
                    pair = rnd.choice((pair.swapped(), Pair(pair.one, Stand("far", pair.other.seats))))
                moments.append(pair)
                if choice == 2:
                    ends.append(pair)
        return found.__class__(ends, moments)

    def test_changed(self):
        met = set()
        for seed, one, other in drawn_duos(240, 5000, most=400):
            rnd = random.Random(seed)
            asked = asked_of(seed, one, other)
            told = asked or [Room(), *[Who(seat) for seat in one.seats]]
            seat = rnd.choice([seat for seat in one.seats if seat in other.seats])
            found, covered = alike_customs(one, other, *asked), covering(one, other, seat)
            for _ in range(5):
                thing = self.changed(rnd, one, other, found)
                word = alike_fault(one, other, asked, thing)
                self.assertEqual(word, told_fault(one, other, told, thing, False), seed)
                met.add((type(thing), word))
                thing = self.changed(rnd, one, other, covered)
                word = covers_fault(one, other, seat, thing)
                self.assertEqual(word, told_fault(one, other, [Who(seat)], thing, True), seed)
                met.add((type(thing), word))
        for title in (Alike, Covers):
            words = {word for kind, word in met if kind is title}
            self.assertLessEqual({None, "start", "stand", "ends", "deed", "year", "unlike"}, words, title)
        words = {word for kind, word in met if kind is Parting}
        self.assertEqual(words, {None, "kinds", "question", "answers", "same"})


class ErrorsTest(Case):
    def test_errors_in_order(self):
        one, other = clocked_custom(1, 1, 3), clocked_custom(1, 2, 40)
        far = clocked_custom(1, 2, 40, kinds=[("x", 2)])
        self.refuses((OtherKinds,), alike_fault, one, far, [None], None)
        self.refuses((OtherKinds,), covers_fault, one, far, None, None)
        for nothing in ((), []):
            self.refuses((OtherSeats,), alike_fault, one, other, nothing, None)
        self.refuses((BadQuestion, "question"), alike_fault, one, other, [None], None)
        self.refuses((BadQuestion, "seat"), alike_fault, one, other, (Room(), Who("q")), None)
        self.refuses((BadQuestion, "number"), alike_fault, one, other, [Reached("k", 4)], None)
        self.refuses((TooMany, 410), alike_fault, one, other, [Room()], None)
        self.refuses((TooMany, 410), covers_fault, one, other, "p", None)
        for seat in (*NO_LABELS, "q", "nobody"):
            self.refuses((BadSeat, seat), covers_fault, one, other, seat, None)
        custom = Custom(one.kinds, ["r"], ["p", "q"], [], [])
        self.refuses((BadSeat, "q"), covers_fault, custom, one, "q", None)

    def test_a_sequence_of_questions(self):
        one = clocked_custom(1, 1)
        found = alike_customs(one, one)
        for asked in ((), [], (Room(),), [Room(), Who("p")]):
            self.assertIsNone(alike_fault(one, one, asked, found))
        asked = [Room()]
        alike_fault(one, one, asked, found)
        self.assertEqual(asked, [Room()])


if __name__ == "__main__":
    unittest.main()
