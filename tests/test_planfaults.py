import random
import unittest

from searchback.clauses import Below, Clause, InRoom, Is, IsNot, Put, ToRoom, Zero
from searchback.customs import Custom
from searchback.getting import getting
from searchback.keeping import keeping
from searchback.kinds import Kinds
from searchback.planfaults import getting_fault, keeping_fault
from searchback.plans import Gets, Keeps, Loses, Never
from searchback.stand import Stand
from tests.games import Game, told_rows_of_deeds
from tests.helpers import Case, Odd, random_stand
from tests.test_keeping import drawn, drawn_customs, hurried_custom, owned_custom


def stand_at(shown, person="x", running=True):
    return Stand("r", [person], [(shown, running)])


ACT = (("renews", "x"),)


class KeepsTest(Case):
    def setUp(self):
        self.custom = owned_custom()

    def judged(self, word, rows, rest=1, asked=1, start=stand_at(0)):
        self.assertEqual(keeping_fault(self.custom, start, "owner", "x", Keeps(rest, rows), rest=asked), word)

    def test_right_plans(self):
        rows = [(stand_at(0), 0, ()), (stand_at(1), 0, ACT), (stand_at(2), 1, ACT)]
        self.judged(None, rows)
        self.judged(None, rows[::-1])
        # It may act sooner, and do what has no effect.
        self.judged(None, [(stand_at(0), 0, ACT), (stand_at(1), 0, ACT * 3), (stand_at(2), 1, [("takes", "x"), *ACT])])
        self.judged(None, [(stand_at(0), 0, ACT), (stand_at(1), 0, ACT)], 0, 0)
        # A plan may have rows to which nothing leads.
        self.judged(None, [*rows, (stand_at(0, "x", False), 0, ()), (stand_at(2, "x", False), 0, ())])

    def test_each_word(self):
        rows = [(stand_at(0), 0, ()), (stand_at(1), 0, ACT), (stand_at(2), 1, ACT)]
        self.judged("rest", rows, 2, 1)
        self.judged("rest", rows, 1, 0)
        self.judged("stands", [*rows, rows[0]])
        self.judged("stands", [*rows, (stand_at(0), 1, ACT)])
        for bad in (stand_at(0, "b"), Stand("s", ["a"], [(0, True)]), stand_at(4), Stand("r", ["a", None], [(0, True)]),
                    Stand("r", ["a"]), stand_at(1, "zed")):
            self.judged("stands", [*rows, (bad, 0, ())])
        self.judged("stands", [*rows[:2], (stand_at(2), 2, ACT)])
        for bad in [("takes", "b"), ("far", "x"), ("renews", "x", "x"), ("renews",), ("renews", "a")]:
            self.judged("own", [*rows[:2], (stand_at(2), 1, [*ACT, bad])])
        self.judged("start", rows, start=stand_at(0, "b"))
        self.judged("start", rows, start=stand_at(0, None))
        self.judged("start", rows, start=stand_at(2))
        self.judged("start", rows, start=stand_at(3))
        self.judged("start", [])
        self.judged("kept", [(stand_at(0), 0, ()), (stand_at(1), 0, ()), (stand_at(2), 1, ACT)])
        self.judged("kept", [(stand_at(0), 0, ()), (stand_at(1), 0, ACT), (stand_at(2), 1, ())])
        self.judged("kept", [(stand_at(0), 0, ()), (stand_at(2), 1, ACT)])
        self.judged("hindered", [(stand_at(0), 0, ACT), (stand_at(1), 0, ACT)])
        self.judged("hindered", [(stand_at(0), 0, ()), (stand_at(1), 0, ACT), (stand_at(2), 2, ACT)], 2, 2)
        self.judged("hindered", [(stand_at(0), 0, ()), (stand_at(1), 0, ACT), (stand_at(2), 0, ACT)])

    def test_where_deeds_of_others_lead(self):
        self.custom = hurried_custom(3)
        shut = [("shuts", "x")]

        def judged(word, rows, rest=1, start=Stand("calm", ["x"], [(0, True)])):
            self.assertEqual(keeping_fault(self.custom, start, "owner", "x", Keeps(rest, rows), rest=rest), word)
        rows = []
        for room in ("calm", "loud"):
            rows.extend([(Stand(room, ["x"], [(shown, True)]), 1 if shown == 2 else 0, shut) for shown in range(3)])
        judged(None, rows)
        judged("deed", rows[:3])
        judged("deed", [*rows[:4], (Stand("loud", ["x"], [(1, True)]), 1, shut), rows[5]])
        self.assertIsNone(keeping_fault(self.custom, Stand("calm", ["x"], [(0, True)]), "owner", "x", Keeps(1, rows), rest=1))

    def test_two_words_at_once(self):
        rows = [(stand_at(0), 0, ()), (stand_at(1), 0, ()), (stand_at(2), 2, [("takes", "b")]), (stand_at(3), 1, ())]
        self.judged("rest", [*rows, rows[0]], 2, 1)
        self.judged("stands", rows, start=stand_at(3))
        rows[2] = (stand_at(2), 1, [("takes", "b")])
        self.judged("own", rows, start=stand_at(3))
        rows[2] = (stand_at(2), 1, ())
        self.judged("start", rows, start=stand_at(2))
        # Others' takes leads out of the listed stands; so does the own row of another one.
        rows.append((stand_at(0, None), 0, ()))
        self.judged("deed", rows)
        self.judged("kept", rows[:4])
        self.judged("kept", [(stand_at(0), 0, ACT), (stand_at(1), 0, ACT), (stand_at(2), 0, ())])

    def test_no_paper(self):
        for thing in (None, Odd(), (), Gets(1, ()), Never(()), "paper", 3):
            for start in (stand_at(0), stand_at(0, "b")):
                self.assertEqual(keeping_fault(self.custom, start, "owner", "x", thing, rest=1), "paper")


class LosesTest(Case):
    def setUp(self):
        self.custom = owned_custom()

    def judged(self, word, years, rows, rest=2, asked=2, start=stand_at(0)):
        self.assertEqual(keeping_fault(self.custom, start, "owner", "x", Loses(rest, years, rows), rest=asked), word)

    def test_right_plans(self):
        rows = [(stand_at(0), 0, 3, (), False), (stand_at(1), 0, 2, (), True), (stand_at(2), 1, 1, (), True)]
        self.judged(None, 3, rows)
        self.judged(None, 3, [rows[1], rows[2], rows[0]])
        # A longer way round is right, too.
        self.judged(None, 9, [(stand_at(0), 0, 9, [("takes", "b")] * 2, False), (stand_at(1), 0, 5, (), True), rows[2]])
        self.judged(None, 0, [], start=stand_at(0, "b"))
        self.judged(None, 0, rows, start=stand_at(3, None))

    def test_each_word(self):
        rows = [(stand_at(0), 0, 3, (), False), (stand_at(1), 0, 2, (), True), (stand_at(2), 1, 1, (), True)]
        self.judged("rest", 3, rows, 3)
        self.judged("rest", 3, rows, 2, 3)
        self.judged("stands", 3, [*rows, rows[0]])
        self.judged("stands", 3, [*rows, (stand_at(0), 0, 9, (), True)])
        self.judged("stands", 3, [*rows, (stand_at(0), 3, 9, (), False)])
        for bad in (stand_at(0, "b"), Stand("s", ["a"], [(0, True)]), stand_at(4), Stand("r", ["a"])):
            self.judged("stands", 3, [*rows, (bad, 0, 9, (), False)])
        for bad in [("renews", "x"), ("far", "b"), ("takes", "b", "b"), ("takes",)]:
            self.judged("others", 3, [*rows[:2], (stand_at(2), 1, 1, [("takes", "b"), bad], True)])
        self.judged("hinder", 3, [*rows, (stand_at(0), 2, 9, (), True)])
        self.judged("start", 2, rows)
        self.judged("start", 4, rows)
        self.judged("start", 0, rows)
        self.judged("start", 0, [])
        self.judged("start", 3, rows, start=stand_at(3))
        self.judged("start", 1, rows, start=stand_at(0, "b"))
        self.judged("start", 1, rows, start=stand_at(2))
        self.judged("falls", 3, rows[:2])
        self.judged("falls", 3, [rows[0], (stand_at(1), 0, 2, (), False), rows[2]])
        self.judged("falls", 3, [rows[0], (stand_at(1), 0, 1, (), True), rows[2]])
        self.judged("falls", 2, [(stand_at(0), 0, 2, (), False), *rows[1:]])
        self.judged("falls", 3, [rows[0], rows[1], (stand_at(2), 1, 1, (), False)])
        self.judged("falls", 3, [rows[0], rows[1], (stand_at(2), 0, 1, (), True)])

    def test_levels_of_hindering(self):
        # Behind a year in which nobody was hindered the row with 0 hindered years counts.
        rows = [(stand_at(0), 0, 3, (), True), (stand_at(1), 1, 2, (), True), (stand_at(2), 2, 1, (), True)]
        self.judged(None, 3, rows, 3, 3)
        self.judged("hinder", 3, rows)
        self.judged("falls", 3, [rows[0], (stand_at(1), 0, 2, (), True), rows[2]], 3, 3)

    def test_where_others_must_act(self):
        custom = hurried_custom(1)
        start = Stand("calm", ["x"], [(0, True)])

        def judged(word, rows, rest=1):
            paper = Loses(rest, 1, rows)
            self.assertEqual(keeping_fault(custom, start, "owner", "x", paper, rest=rest), word)
        judged(None, [(start, 0, 1, [("opens", "b")], True)])
        judged(None, [(start, 0, 1, [("opens", "b"), ("shuts", "b")], True)])
        judged("falls", [(start, 0, 1, [("shuts", "b")], True)])
        judged("falls", [(start, 0, 1, [("opens", "b")], False)])

    def test_two_words_at_once(self):
        rows = [(stand_at(0), 0, 3, (), False), (stand_at(1), 0, 2, [("renews", "x")], True), (stand_at(2), 3, 1, (), True)]
        self.judged("rest", 3, rows, 3)
        self.judged("stands", 9, rows)
        rows[2] = (stand_at(2), 2, 1, (), True)
        self.judged("others", 9, rows)
        rows[1] = (stand_at(1), 0, 2, (), True)
        self.judged("hinder", 9, rows)
        rows[2] = (stand_at(2), 2, 1, (), False)
        self.judged("start", 9, rows)
        self.judged("falls", 3, rows)


class GetsTest(Case):
    def setUp(self):
        # The claim counts in the room s alone; others can turn it back while the clock shows 0.
        self.custom = Custom(Kinds([("claims", 1), ("turns", 0), ("goes", 1)]), ["r", "s"], ["owner"], [("k", 1, True)], [
            Clause("claims", [InRoom("s")], [Put("owner", "first"), Zero("k")]),
            Clause("turns", [Below("k", 1)], [ToRoom("r")]),
            Clause("goes", [Is("owner", "nobody")], [ToRoom("s")])])

    def at(self, room, shown, person=None):
        return Stand(room, [person], [(shown, True)])

    def judged(self, word, years, rows, start=None):
        paper = Gets(years, rows)
        self.assertEqual(getting_fault(self.custom, start or self.at("r", 0), "owner", "x", paper), word)

    def all_rows(self):
        both = [("goes", "x"), ("claims", "x")]
        rows = [(self.at(room, shown), 1, both) for room in ("r", "s") for shown in (0, 1)]
        return rows + [(self.at(room, shown, "a"), 2, [("claims", "x")]) for room in ("r", "s") for shown in (0, 1)]

    def test_right_plans(self):
        rows = [row for row in self.all_rows() if row[0].seats == (None,)]
        taken = [(self.at("s", 0, "a"), 1, [("claims", "x")]), (self.at("s", 1, "a"), 1, [("claims", "x")])]
        self.judged("deed", 1, rows)
        self.judged("deed", 1, [*rows, *taken])
        getting_paper = getting(self.custom, self.at("r", 0), "owner", "x")
        self.assertIs(type(getting_paper), Never)
        self.judged(None, 0, [], self.at("r", 0, "x"))
        self.judged(None, 0, [(self.at("r", 1, "x"), 1, ())], self.at("r", 1, "x"))

    def test_a_plan_of_several_years(self):
        self.custom = Custom(Kinds([("claims", 1), ("gives", 2)]), ["r"], ["owner"], [("k", 2, True)], [
            Clause("claims", [IsNot("owner", "first"), Below("k", 2)], [Put("owner", "nobody")]),
            Clause("claims", [], [Put("owner", "first")]),
            Clause("gives", [], [Put("owner", "second")])])
        claim = [("claims", "x")]
        give = [("gives", "x", "x")]
        rows = []
        for shown in (0, 1, 2):
            for person in (None, "x", "a"):
                rows.append((self.at("r", shown, person), 3 - shown, give if shown < 2 else claim))
        self.judged(None, 3, rows)
        self.judged(None, 1, rows, self.at("r", 2))
        self.judged("deed", 3, [*rows[:7], *rows[8:]])
        self.judged("deed", 3, [*rows[:7], (rows[7][0], 2, claim), rows[8]])
        slow = [(stand, left, () if left > 1 else own) for stand, left, own in rows]
        self.judged(None, 3, slow)
        self.judged("falls", 3, [(stand, 1 if left == 2 else left, own) for stand, left, own in slow])
        self.judged("falls", 3, [(stand, left, ()) for stand, left, own in slow])
        self.judged("falls", 3, slow[:6] + [(slow[6][0], 1, give[:0]), *slow[7:]])

    def test_each_word(self):
        self.custom = self.custom.with_clauses(self.custom.clauses[:1])
        rows = [(self.at("s", shown, person), 1, [("claims", "x")]) for shown in (0, 1) for person in (None, "x", "a")]
        start = self.at("s", 1)
        self.judged(None, 1, rows, start)
        self.judged("stands", 1, [*rows, rows[0]], start)
        self.judged("stands", 1, [*rows, (rows[0][0], 2, ())], start)
        for bad in (self.at("s", 0, "b"), self.at("t", 0), Stand("s", [None]), Stand("s", [None], [(2, True)])):
            self.judged("stands", 1, [*rows, (bad, 1, ())], start)
        for bad in [("claims", "a"), ("turns",), ("far", "x"), ("claims", "x", "x")]:
            self.judged("own", 1, [*rows[1:], (rows[0][0], 1, [bad])], start)
        self.judged("start", 2, rows, start)
        self.judged("start", 0, rows, start)
        self.judged("start", 1, rows, self.at("s", 1, "x"))
        self.judged("start", 1, rows, self.at("r", 1))
        self.judged("deed", 1, [*rows[:2], *rows[3:]], start)
        self.judged("falls", 1, [*rows[:3], (rows[3][0], 1, ()), *rows[4:]], start)

    def test_two_words_at_once(self):
        self.custom = self.custom.with_clauses(self.custom.clauses[:1])
        rows = [(self.at("s", 0), 1, [("turns",)]), (self.at("s", 0, "b"), 1, ())]
        self.judged("stands", 9, rows)
        self.judged("own", 9, rows[:1])
        rows = [(self.at("s", 0), 1, ())]
        self.judged("start", 9, rows, self.at("s", 0))
        self.judged("deed", 1, rows, self.at("s", 0))

    def test_no_paper(self):
        for thing in (None, Odd(), (), Keeps(1, ()), Loses(0, 0, ()), "paper", 3):
            self.assertEqual(getting_fault(self.custom, self.at("r", 0), "owner", "x", thing), "paper")


class NeverTest(Case):
    def setUp(self):
        self.custom = Custom(Kinds([("claims", 1), ("turns", 0)]), ["r", "s"], ["owner"], [], [
            Clause("claims", [InRoom("s")], [Put("owner", "first")]), Clause("turns", [], [ToRoom("r")]),
            Clause("year", [InRoom("r")], [ToRoom("s")])])

    def judged(self, word, rows, start=Stand("s", [None])):
        self.assertEqual(getting_fault(self.custom, start, "owner", "x", Never(rows)), word)

    def test_right_plans_and_each_word(self):
        row = (Stand("s", [None]), [("turns",)])
        self.judged(None, [row])
        self.judged(None, [(row[0], [("claims", "b"), ("turns",)]), (Stand("s", ["a"]), [("turns",)])])
        self.judged("stands", [row, row])
        self.judged("stands", [row, (row[0], ())])
        for bad in (Stand("s", ["b"]), Stand("t", [None]), Stand("s", [None], [(0, True)]), Stand("s", [None, None])):
            self.judged("stands", [row, (bad, [("turns",)])])
        for bad in [("claims", "x"), ("far",), ("turns", "b"), ("claims",)]:
            self.judged("others", [(row[0], [("turns",), bad])])
        self.judged("start", [row], Stand("s", ["x"]))
        self.judged("start", [row, (Stand("s", ["x"]), [("turns",)])], Stand("s", ["x"]))
        self.judged("start", [row], Stand("r", [None]))
        self.judged("start", [])
        self.judged("never", [(row[0], ())])
        self.judged("never", [(row[0], [("claims", "b"), ("turns",)])])
        self.judged("never", [row, (Stand("r", ["x"]), ())])
        # A row that has to go on may be one to which nothing leads.
        self.judged("never", [row, (Stand("s", ["a"]), ())])

    def test_two_words_at_once(self):
        self.judged("stands", [(Stand("s", [None]), [("claims", "x")]), (Stand("s", ["b"]), ())], Stand("r", [None]))
        self.judged("others", [(Stand("s", [None]), [("claims", "x")])], Stand("r", [None]))
        self.judged("start", [(Stand("s", [None]), ())], Stand("r", [None]))


class ChangedPapersTest(Case):
    """Papers with something changed, against the sentences written down a second time."""

    def changed(self, rnd, game, paper):
        """The paper with one or two things changed."""
        rows = [list(row) for row in paper.rows]
        rest, years = getattr(paper, "rest", 0), getattr(paper, "years", 0)
        own = isinstance(paper, (Keeps, Gets))
        deeds = 3 if isinstance(paper, Loses) else len(rows[0]) - 1 if rows else 0
        numbers = {Keeps: [1], Loses: [1, 2], Gets: [1], Never: []}[type(paper)]
        for _ in range(rnd.choice((1, 1, 2))):
            row = rnd.choice(rows or [None])
            choice = rnd.randrange(8)
            if choice == 0:
                rest, years = rnd.choice(((rest + 1, years), (max(0, rest - 1), years), (rest, years + 1), (rest, max(0, years - 1))))
            elif row is None:
                continue
            elif choice == 1 and len(rows) > 1:
                rows.remove(row)
            elif choice == 2:
                rows.append(list(row))
            elif choice == 3 and numbers:
                column = rnd.choice(numbers)
                row[column] = max(0 if isinstance(paper, Keeps) or column == 1 and isinstance(paper, Loses) else 1,
                                  row[column] + rnd.choice((-1, 1)))
            elif choice in (4, 5):
                sides = told_rows_of_deeds(game.custom, row[0], game.person)
                wanted = sides[1 if own else 0] if rnd.random() < 0.8 else [*sides[0], *sides[1]]
                row[deeds] = [rnd.choice(wanted or [("far", "x")]) for _ in range(rnd.randint(0, 2))]
            elif choice == 6 and isinstance(paper, Loses):
                row[4] = not row[4]
            elif choice == 7:
                row[0] = rnd.choice(game.stands) if rnd.random() < 0.7 else random_stand(rnd.random(), game.custom)
        return {Keeps: lambda: Keeps(rest, rows), Loses: lambda: Loses(rest, years, rows),
                Gets: lambda: Gets(years, rows), Never: lambda: Never(rows)}[type(paper)]()

    def test_changed_papers(self):
        met = set()
        written = [(0, hurried_custom(3), "owner", "x"), (1, owned_custom(4), "owner", "a")]
        for seed, custom, seat, person in (*written * 6, *drawn_customs(90)):
            game = Game(custom, seat, person)
            rnd = random.Random(seed)
            sitting = [code for code in game.codes if game.sits(code)]
            for code in drawn(seed, game.codes)[:2] + drawn(seed, sitting)[:2]:
                stand, rest = Stand(*code), rnd.choice((0, 1, 2, 3))
                kept = keeping(custom, stand, seat, person, rest=rest)
                got = getting(custom, stand, seat, person)
                for _ in range(6):
                    paper = self.changed(rnd, game, kept)
                    start = rnd.choice((stand, stand, stand, rnd.choice(game.stands)))
                    word = keeping_fault(custom, start, seat, person, paper, rest=rest)
                    self.assertEqual(word, game.keeping_fault(start, paper, rest))
                    met.add((type(paper), word))
                    paper = self.changed(rnd, game, got)
                    word = getting_fault(custom, start, seat, person, paper)
                    self.assertEqual(word, game.getting_fault(start, paper))
                    met.add((type(paper), word))
        wanted = {Keeps: "rest stands own start deed kept hindered", Loses: "rest stands others hinder start falls",
                  Gets: "stands own start deed falls", Never: "stands others start never"}
        for title, words in wanted.items():
            self.assertEqual({word for kind, word in met if kind is title}, {None, *words.split()}, title)


if __name__ == "__main__":
    unittest.main()
