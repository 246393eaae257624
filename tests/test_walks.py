import unittest

from searchback.clauses import Clause, Put, ToRoom, Zero
from searchback.customs import Custom
from searchback.errors import BadQuestion, BadStand, BadYears, OtherKinds
from searchback.histories import History
from searchback.kinds import Kinds
from searchback.questions import Filled, Reached, Room, Together, Who
from searchback.stand import Stand
from searchback.walks import Step, answer_of, answers_through, led_on, stand_at, steps_of
from tests.helpers import (
    NO_WHOLES, Case, Odd, plain_custom, random_custom, random_history, random_stand, told_ends, told_steps, wide_custom,
)

OTHERS = History(Kinds([("takes", 1), ("sells", 2)]))


def plain_history():
    return History(plain_custom().kinds, [
        [("takes", "ann"), ("sells", "bob", "cy")], [("sells", "ann", "bob")], [], []])


def pairs():
    """Customs with histories, and a number for more choices."""
    for seed in range(150):
        custom = random_custom(seed)
        yield seed, custom, random_history(seed, custom.kinds)


class WalkTest(Case):
    def test_the_example(self):
        custom, history = plain_custom(), plain_history()
        self.assertEqual(answers_through(custom, history, Who("owner")), (None, "ann", "bob", "bob", None))
        self.is_tuple_throughout(answers_through(custom, history, Who("owner")))
        self.assertEqual([answer_of(custom, history, Who("owner"), years) for years in range(5)],
                         [None, "ann", "bob", "bob", None])
        self.assertIsNone(answer_of(custom, history, Who("owner")))
        self.assertEqual(stand_at(custom, history, 2), Stand("free", ["bob"], [(1, True)]))
        self.assertEqual(stand_at(custom, history), Stand("free", [None], [(3, True)]))

    def test_steps_of_the_example(self):
        steps = list(steps_of(plain_custom(), plain_history()))
        told = [(0, 0, ("takes", "ann"), 1, "ann", 0), (0, 1, ("sells", "bob", "cy"), None, "ann", 0),
                (0, 2, None, None, "ann", 1), (1, 0, ("sells", "ann", "bob"), 0, "bob", 0), (1, 1, None, None, "bob", 1),
                (2, 0, None, None, "bob", 2), (3, 0, None, 2, None, 3)]
        rows = [(step.year, step.place, step.deed, step.clause, step.stand.seats[0], step.stand.clocks[0][0])
                for step in steps]
        self.assertEqual(rows, told)
        self.assertEqual(steps[0], Step(0, 0, ("takes", "ann"), 1, Stand("free", ["ann"], [(0, True)])))

    def test_steps_are_a_generator(self):
        steps = steps_of(plain_custom(), plain_history())
        self.assertIs(iter(steps), steps)
        self.assertEqual(next(steps).clause, 1)

    def test_steps_are_equal_by_all_five(self):
        stand, other = Stand("a", ["x"]), Stand("a", ["y"])
        self.same_only(lambda: Step(1, 2, ("a",), 3, stand), [
            Step(0, 2, ("a",), 3, stand), Step(1, 0, ("a",), 3, stand), Step(1, 2, None, 3, stand),
            Step(1, 2, ("a",), None, stand), Step(1, 2, ("a",), 3, other), (1, 2, ("a",), 3, stand)])
        step = Step("v", "w", "x", "y", "z")
        self.assertEqual(vars(step), {"year": "v", "place": "w", "deed": "x", "clause": "y", "stand": "z"})

    def test_no_years(self):
        for custom in (plain_custom(), wide_custom()):
            history = History(custom.kinds)
            for years in (None, 0):
                self.assertEqual(stand_at(custom, history, years), custom.start)
            self.assertIsNot(stand_at(custom, history), custom.start)
            self.assertEqual(list(steps_of(custom, history)), [])
            self.assertEqual(answers_through(custom, history, Room()), (custom.rooms[0],))
            self.assertEqual(answer_of(custom, history, Filled("owner")), False)
            self.assertEqual(led_on(custom, custom.start, history), custom.start)

    def test_against_a_plain_walk(self):
        for seed, custom, history in pairs():
            ends = told_ends(custom, history)
            for years in range(len(history) + 1):
                self.assertEqual(stand_at(custom, history, years), ends[years])
            self.assertEqual(stand_at(custom, history, None), ends[-1])
            self.assertEqual(stand_at(custom, history), ends[-1])
            steps = [Step(*row[:4], row[5]) for row in told_steps(custom, history)]
            self.assertEqual(list(steps_of(custom, history)), steps)
            questions = [Room(), Who(custom.seats[0]), Filled(custom.seats[-1])]
            questions += [Together(*custom.seats[:2])] if len(custom.seats) > 1 else []
            questions += [Reached(clock[0], clock[1]) for clock in custom.clocks]
            for question in questions:
                told = tuple([question.of(custom, stand) for stand in ends])
                self.assertEqual(answers_through(custom, history, question), told)
                for years in range(len(history) + 1):
                    self.assertEqual(answer_of(custom, history, question, years), told[years])
                self.assertEqual(answer_of(custom, history, question), told[-1])

    def test_led_on(self):
        for seed, custom, history in pairs():
            for at in range(4):
                stand = random_stand(seed * 10 + at, custom)
                steps = list(told_steps(custom, history, stand))
                self.assertEqual(led_on(custom, stand, history), steps[-1][5] if steps else stand)
                self.assertIsNot(led_on(custom, stand, history), stand)
            self.assertEqual(led_on(custom, custom.start, history), stand_at(custom, history))

    def test_equal_stands_are_led_on_alike(self):
        for seed, custom, history in pairs():
            if len(history) > 1:
                stand = stand_at(custom, history, 1)
                self.assertEqual(led_on(custom, stand, history.last(len(history) - 1)), stand_at(custom, history))

    def test_two_seats_are_exchanged(self):
        kinds = Kinds([("swap", 0), ("takes", 1)])
        custom = Custom(kinds, ["r"], ["a", "b"], [], [
            Clause("takes", (), [Put("b", "a"), Put("a", "first")]), Clause("swap", (), [Put("a", "b"), Put("b", "a")])])
        history = History(kinds, [[("takes", "x"), ("takes", "y")], [("swap",)], [("swap",), ("swap",)]])
        self.assertEqual([stand.seats for stand in told_ends(custom, history)],
                         [(None, None), ("y", "x"), ("x", "y"), ("x", "y")])
        self.assertEqual(answers_through(custom, history, Who("a")), (None, "y", "x", "x"))
        self.assertEqual(stand_at(custom, history, 2).seats, ("x", "y"))

    def test_a_long_history(self):
        custom = plain_custom()
        history = History(custom.kinds, [[("takes", "ann")], [], []] * 60000)
        self.assertEqual(stand_at(custom, history, 179999), Stand("free", ["ann"], [(2, True)]))
        self.assertEqual(stand_at(custom, history), Stand("free", [None], [(3, True)]))
        self.assertEqual(len(answers_through(custom, history, Who("owner"))), 180001)

    def test_other_kinds_come_first(self):
        custom = plain_custom()
        self.refuses((OtherKinds,), stand_at, custom, OTHERS, 7)
        self.refuses((OtherKinds,), answer_of, custom, OTHERS, None, 7)
        self.refuses((OtherKinds,), answers_through, custom, OTHERS, None)
        self.refuses((OtherKinds,), lambda: list(steps_of(custom, OTHERS)))
        self.refuses((OtherKinds,), led_on, custom, None, OTHERS)

    def test_years(self):
        custom, history = plain_custom(), plain_history()
        for thing in (*NO_WHOLES[1:], -1, 5, 10 ** 9):
            self.refuses((BadYears, thing), stand_at, custom, history, thing)
            self.refuses((BadYears, thing), answer_of, custom, history, Room(), thing)
        self.assertEqual(stand_at(custom, history, years=4), stand_at(custom, history))
        self.assertEqual(answer_of(custom, history, Room(), years=None), "free")

    def test_questions(self):
        custom, history = plain_custom(), plain_history()
        for thing in (None, "owner", Odd(), Who, [Room()]):
            self.refuses((BadQuestion, "question"), answer_of, custom, history, thing, 7)
            self.refuses((BadQuestion, "question"), answers_through, custom, history, thing)
        for question, word in ((Who("heir"), "seat"), (Filled("heir"), "seat"), (Together("owner", "heir"), "seat"),
                               (Reached("owner", 1), "clock"), (Reached("idle", 4), "number")):
            self.refuses((BadQuestion, word), answer_of, custom, history, question, 7)
            self.refuses((BadQuestion, word), answers_through, custom, history, question)

    def test_stands(self):
        custom, history = plain_custom(), plain_history()
        for thing, word in ((None, "stand"), (Stand("suit", ["x", "y"]), "room"), (Stand("free", ["x", "y"]), "seats"),
                            (Stand("free", ["x"]), "clocks"), (Stand("free", ["x"], [(4, True)]), "number")):
            self.refuses((BadStand, word), led_on, custom, thing, history)

    def test_nothing_is_changed(self):
        custom, history, stand = wide_custom(), random_history(3, wide_custom().kinds), random_stand(3, wide_custom())
        code, years = stand.code, history.years
        led_on(custom, stand, history)
        stand_at(custom, history)
        list(steps_of(custom, history))
        self.assertEqual((custom, history.years, stand.code), (wide_custom(), years, code))

    def test_a_clause_without_changes_acts(self):
        kinds = Kinds([("open", 0)])
        custom = Custom(kinds, ["a", "b"], ["s"], [("k", 1, True)], [
            Clause("open"), Clause("open", (), [ToRoom("b")]), Clause("year", (), [Zero("k")])])
        self.assertEqual([step.clause for step in steps_of(custom, History(kinds, [[("open",)], []]))], [0, 2, 2])
        self.assertEqual(stand_at(custom, History(kinds, [[("open",)]])), custom.start)


if __name__ == "__main__":
    unittest.main()
