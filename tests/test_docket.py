import random
import unittest

from searchback.abstracts import Abstract
from searchback.clauses import Clause, Put
from searchback.docket import Docket, News, told_answer
from searchback.entries import Holding, Known
from searchback.errors import (
    BadDeed, BadDocket, BadLog, BadQuestion, NoNews, NoPlace, NoYear, Overfull, SearchError, YearIsNotShut, YearIsShut,
)
from searchback.histories import History
from searchback.questions import Reached, Room, Who
from tests.helpers import (
    NO_LABELS, NO_SEQUENCES, NO_WHOLES, Case, Odd, clocked_custom, lively_custom, plain_custom, random_history,
    told_answer as told_by_hand, told_ends,
)


def state_of(docket):
    """All that can be seen of a docket."""
    news = [(one.number, one.year, one.place, one.deed) for one in docket.news()]
    return (docket.custom, docket.ahead, docket.rows, docket.shut_years, docket.log, docket.persons, news, len(docket))


def next_number(docket):
    """The number of the next news, found in a trial with room for one more."""
    def call(held):
        for year in held.shut_years:
            held.reopen(year)
        for one in held.news():
            held.take_back(one.number)
        return held.tell(0, 0, (held.custom.kinds.names[0], *"abcdef"[:held.custom.kinds.rows[0][1]]))
    return docket.tried(call)


def some_docket():
    docket = Docket(plain_custom(), 3)
    docket.tell(0, 0, ("takes", "ann"))
    docket.tell(2, 0, ["sells", "bob", "cy"])
    docket.tell(0, 0, ("sells", "dan", "ann"))
    docket.tell(0, 1, ("takes", "bob"))
    docket.shut(2)
    return docket


class DocketTest(Case):
    def test_a_new_docket(self):
        custom = plain_custom()
        for years in range(1, 9):
            docket = Docket(custom, years)
            self.assertEqual(state_of(docket), (custom, False, ((),) * years, (), (), (), [], years))
            self.assertEqual(list(docket), [()] * years)
            self.assertIs(Docket(custom, years, ahead=True).ahead, True)
        self.assertEqual((Docket.MOST_DEEDS, Docket.MOST_PERSONS, docket.MOST_DEEDS), (12, 6, 12))

    def test_refused_dockets(self):
        custom = plain_custom()
        for bad in (*NO_WHOLES, 0, -1, 9, 10 ** 9):
            self.refuses((BadDocket, "years"), Docket, custom, bad)
            self.refuses((BadDocket, "years"), Docket, custom, bad, ahead=None)
        for bad in (None, 0, 1, "", "True", (), Odd()):
            self.refuses((BadDocket, "ahead"), Docket, custom, 8, ahead=bad)

    def test_written_news(self):
        docket = some_docket()
        self.assertEqual(docket.rows, ((("sells", "dan", "ann"), ("takes", "bob"), ("takes", "ann")), (), (("sells", "bob", "cy"),)))
        self.assertEqual(docket.persons, ("dan", "ann", "bob", "cy"))
        self.assertEqual(docket.news(), (
            News(0, 0, 2, ("takes", "ann")), News(1, 2, 0, ("sells", "bob", "cy")), News(2, 0, 0, ("sells", "dan", "ann")),
            News(3, 0, 1, ("takes", "bob"))))
        self.assertEqual(docket.take_back(2), News(2, 0, 0, ("sells", "dan", "ann")))
        self.assertEqual(docket.take_back(0), News(0, 0, 1, ("takes", "ann")))
        self.assertEqual([(one.number, one.place) for one in docket.news()], [(1, 0), (3, 0)])
        self.assertEqual(docket.tell(1, 0, ("takes", "eve")), 4)
        self.assertEqual(docket.persons, ("bob", "eve", "cy"))
        self.assertIs(docket.shut(1), None)
        self.assertEqual(docket.shut_years, (1, 2))
        self.assertIs(docket.reopen(2), None)
        self.assertEqual(docket.shut_years, (1,))
        self.assertEqual(docket.log[4:], (("shut", 2), ("take back", 2), ("take back", 0), ("tell", 1, 0, ("takes", "eve")),
                                          ("shut", 1), ("reopen", 2)))
        self.assertEqual(docket.log[:2], (("tell", 0, 0, ("takes", "ann")), ("tell", 2, 0, ("sells", "bob", "cy"))))
        self.is_tuple_throughout(docket.log)
        self.is_tuple_throughout(docket.rows)
        self.assertEqual(docket.told_history(), History(plain_custom().kinds, docket.rows))

    def test_a_number_is_given_once(self):
        docket = Docket(plain_custom(), 1)
        self.assertEqual([docket.tell(0, 0, ("takes", "a")) for _ in range(3)], [0, 1, 2])
        docket.take_back(2)
        docket.take_back(0)
        self.assertEqual(docket.tell(0, 1, ("takes", "a")), 3)
        self.assertEqual([(one.number, one.place) for one in docket.news()], [(1, 0), (3, 1)])

    def test_news_and_dockets_are_equal_by_what_counts(self):
        self.same_only(lambda: News(1, 2, 3, ("x",)), [
            News(0, 2, 3, ("x",)), News(1, 0, 3, ("x",)), News(1, 2, 0, ("x",)), News(1, 2, 3, ("y",))])
        custom = plain_custom()

        def docket(rows, years=2, ahead=False, held=custom):
            return Docket.replayed(held, years, rows, ahead=ahead)
        told = ("tell", 1, 0, ("takes", "a"))
        self.same_only(lambda: docket([told, ("shut", 0)]), [
            docket([told]), docket([told, ("shut", 1)]), docket([("shut", 0)]), docket([told, ("shut", 0)], 3),
            docket([told, ("shut", 0)], 2, True), docket([told, ("shut", 0)], 2, False, custom.with_clauses(())),
            docket([("tell", 1, 0, ("takes", "b")), ("shut", 0)]), docket([("tell", 0, 0, ("takes", "a")), ("shut", 0)])])
        other = docket([("shut", 0), ("reopen", 0), told, told, ("take back", 1), ("shut", 0)])
        self.assertEqual(other, docket([told, ("shut", 0)]))
        self.assertEqual((next_number(other), next_number(docket([told, ("shut", 0)]))), (2, 1))


class ErrorsTest(Case):
    def changes_nothing(self, error, docket, call, *args):
        before = state_of(docket)
        self.refuses(error, call, *args)
        self.assertEqual(state_of(docket), before)

    def test_tell(self):
        docket = some_docket()
        for bad in (*NO_WHOLES, -1, 3, 8):
            self.changes_nothing((NoYear, bad), docket, docket.tell, bad, None, None)
        self.changes_nothing((YearIsShut, 2), docket, docket.tell, 2, None, None)
        for bad in (*NO_WHOLES, -1, 4, 10 ** 9):
            self.changes_nothing((NoPlace, bad), docket, docket.tell, 0, bad, None)
        self.changes_nothing((NoPlace, 1), docket, docket.tell, 1, 1, None)
        for bad in (*NO_SEQUENCES, [], ()):
            self.changes_nothing((BadDeed, "deed"), docket, docket.tell, 0, 3, bad)
        for word, bad in (("kind", ("far", "a")), ("arity", ("takes",)), ("arity", ("takes", "a", "b")), ("kind", [None])):
            self.changes_nothing((BadDeed, word), docket, docket.tell, 1, 0, bad)
        for bad in NO_LABELS:
            self.changes_nothing((BadDeed, "person"), docket, docket.tell, 1, 0, ("takes", bad))
        self.assertEqual(docket.tell(0, 3, ("takes", "ann")), 4)

    def test_a_full_docket(self):
        docket = Docket(plain_custom(), 2)
        for at in range(12):
            self.assertEqual(docket.tell(at % 2, 0, ("sells", "abc"[at % 3], "def"[at % 3])), at)
        self.changes_nothing((Overfull, "deeds"), docket, docket.tell, 0, 0, ("takes", "a"))
        self.changes_nothing((Overfull, "deeds"), docket, docket.tell, 0, 0, ("takes", "g"))
        self.changes_nothing((BadDeed, "person"), docket, docket.tell, 0, 0, ("takes", "G"))
        docket.take_back(11)
        self.changes_nothing((Overfull, "persons"), docket, docket.tell, 0, 0, ("takes", "g"))
        self.changes_nothing((Overfull, "persons"), docket, docket.tell, 0, 0, ("sells", "a", "g"))
        self.assertEqual(docket.tell(0, 0, ("sells", "f", "a")), 12)
        docket = Docket(plain_custom(), 2)
        for person in "abcde":
            docket.tell(0, 0, ("takes", person))
        self.changes_nothing((Overfull, "persons"), docket, docket.tell, 1, 0, ("sells", "f", "g"))
        self.assertEqual(docket.tell(1, 0, ("sells", "f", "f")), 5)
        # Whoever is named no more makes room.
        docket.take_back(0)
        self.assertEqual(docket.tell(1, 0, ("takes", "g")), 6)

    def test_the_first_error_is_due(self):
        docket = some_docket()
        for at in range(8):
            docket.tell(1, at, ("takes", "ann"))
        docket.shut(1)
        docket.reopen(2)
        self.changes_nothing((NoYear, 3), docket, docket.tell, 3, 9, ("far",))
        self.changes_nothing((YearIsShut, 1), docket, docket.tell, 1, 99, ("far",))
        self.changes_nothing((NoPlace, 9), docket, docket.tell, 0, 9, ("far",))
        self.changes_nothing((BadDeed, "kind"), docket, docket.tell, 0, 0, ("far",))
        self.changes_nothing((Overfull, "deeds"), docket, docket.tell, 0, 0, ("sells", "x", "y"))

    def test_take_back(self):
        docket = some_docket()
        for bad in (*NO_WHOLES, -1, 4, 99):
            self.changes_nothing((NoNews, bad), docket, docket.take_back, bad)
        self.changes_nothing((YearIsShut, 2), docket, docket.take_back, 1)
        docket.take_back(0)
        self.changes_nothing((NoNews, 0), docket, docket.take_back, 0)
        self.changes_nothing((NoNews, True), docket, docket.take_back, True)

    def test_shut_and_reopen(self):
        docket = some_docket()
        for bad in (*NO_WHOLES, -1, 3):
            self.changes_nothing((NoYear, bad), docket, docket.shut, bad)
            self.changes_nothing((NoYear, bad), docket, docket.reopen, bad)
            self.changes_nothing((NoYear, bad), docket, docket.told_stand, bad)
            self.changes_nothing((NoYear, bad), docket, docket.abstract_to, bad)
            self.changes_nothing((NoYear, bad), docket, told_answer, docket, bad, Room())
        self.changes_nothing((YearIsShut, 2), docket, docket.shut, 2)
        self.changes_nothing((YearIsNotShut, 0), docket, docket.reopen, 0)
        docket.shut(0)
        self.assertEqual(docket.shut_years, (0, 2))

    def test_do(self):
        docket = some_docket()
        bad = [*NO_SEQUENCES, (), [], ("far", 1), ("told", 0, 0, ("takes", "a")), ("tell",), ("tell", 0, 0), (["shut"], 0),
               ("tell", 0, 0, ("takes", "a"), 0), ("far",), ("take back",), ("take back", 0, 0), ("shut",), ("shut", 0, 0), ("reopen",),
               ("reopen", 2, 2), (None, 0), (0, 0), ("Shut", 0), ("take_back", 0), (("shut",), 0), [{}, 1], "shut"]
        for row in bad:
            self.changes_nothing((BadLog,), docket, docket.do, row)
        self.changes_nothing((NoYear, True), docket, docket.do, ("shut", True))
        self.changes_nothing((YearIsShut, 2), docket, docket.do, ["tell", 2, 9, 9])
        self.changes_nothing((NoNews, 9), docket, docket.do, ("take back", 9))
        self.changes_nothing((YearIsNotShut, 1), docket, docket.do, ["reopen", 1])
        self.assertEqual(docket.do(["tell", 1, 0, ["takes", "eve"]]), 4)
        self.assertEqual(docket.do(("take back", 4)), News(4, 1, 0, ("takes", "eve")))
        self.assertIs(docket.do(["shut", 1]), None)
        self.assertIs(docket.do(("reopen", 1)), None)
        self.assertEqual(docket.log[-4:], (("tell", 1, 0, ("takes", "eve")), ("take back", 4), ("shut", 1), ("reopen", 1)))

    def test_replayed(self):
        custom = plain_custom()
        self.refuses((BadDocket, "years"), Docket.replayed, custom, 9, [None], ahead=None)
        self.refuses((BadDocket, "ahead"), Docket.replayed, custom, 8, [None], ahead=None)
        self.refuses((BadLog,), Docket.replayed, custom, 8, [("shut", 0), None, ("shut", 0)])
        self.refuses((YearIsShut, 0), Docket.replayed, custom, 8, [("shut", 0), ("shut", 0), None])
        for rows in ([["shut", 1], ("tell", 0, 0, ["takes", "a"])], (("shut", 1), ["tell", 0, 0, ("takes", "a")])):
            for ahead in (False, True):
                docket = Docket.replayed(custom, 2, rows, ahead=ahead)
                self.assertEqual((docket.rows, docket.shut_years, docket.ahead), (((("takes", "a"),), ()), (1,), ahead))
                self.assertEqual(docket.log, (("shut", 1), ("tell", 0, 0, ("takes", "a"))))
            self.assertIs(Docket.replayed(custom, 2, rows).ahead, False)

    def test_keeps_nothing(self):
        docket = Docket(plain_custom(), 1)
        deed = ["takes", "ann"]
        row = ["tell", 0, 1, deed]
        docket.tell(0, 0, deed)
        docket.do(row)
        deed[1] = "bob"
        row.clear()
        self.assertEqual(docket.rows, ((("takes", "ann"), ("takes", "ann")),))
        self.assertEqual(docket.log[1], ("tell", 0, 1, ("takes", "ann")))
        self.assertEqual(deed, ["takes", "bob"])


class Stop(Exception):
    """What a block in a test ends with."""


class TrialsTest(Case):
    def change(self, docket):
        docket.reopen(2)
        docket.take_back(0)
        docket.tell(1, 0, ("takes", "eve"))
        docket.shut(0)

    def test_everything_is_as_it_was(self):
        docket = some_docket()
        before = state_of(docket)
        with docket.trial() as held:
            self.assertIs(held, docket)
            self.change(held)
            self.assertNotEqual(state_of(docket), before)
        self.assertEqual(state_of(docket), before)
        self.assertEqual((next_number(docket), docket.tell(1, 0, ("takes", "eve"))), (4, 4))

    def test_a_trial_that_ends_by_an_error(self):
        docket = some_docket()
        before = state_of(docket)
        with self.assertRaises(Stop):
            with docket.trial() as held:
                self.change(held)
                raise Stop()
        self.assertEqual(state_of(docket), before)
        with self.assertRaises(YearIsShut):
            with docket.trial() as held:
                self.change(held)
                held.shut(0)
        self.assertEqual(state_of(docket), before)
        with self.assertRaises(Stop):
            docket.tried(self.fails)
        self.assertEqual(state_of(docket), before)

    def fails(self, held):
        self.change(held)
        raise Stop()

    def test_trials_within_trials(self):
        docket = some_docket()
        first = state_of(docket)
        with docket.trial():
            docket.shut(0)
            second = state_of(docket)
            with docket.trial() as held:
                docket.tell(1, 0, ("takes", "eve"))
                third = state_of(docket)
                self.assertEqual(held.tried(lambda inner: inner.tell(1, 1, ("takes", "eve"))), 5)
                self.assertEqual(state_of(docket), third)
                with self.assertRaises(Stop):
                    with docket.trial():
                        docket.shut(1)
                        raise Stop()
                self.assertEqual(state_of(docket), third)
            self.assertEqual(state_of(docket), second)
            docket.reopen(0)
        self.assertEqual(state_of(docket), first)

    def test_one_trial_object_for_one_block_after_another(self):
        docket = some_docket()
        trial = docket.trial()
        before = state_of(docket)
        with trial:
            docket.shut(0)
        self.assertEqual(state_of(docket), before)
        # The second block goes back to its own beginning.
        docket.tell(1, 0, ("takes", "eve"))
        before = state_of(docket)
        with trial:
            self.change_more(docket)
        self.assertEqual(state_of(docket), before)

    def change_more(self, docket):
        docket.take_back(4)
        docket.shut(1)

    def test_tried_returns_what_the_call_returns(self):
        docket = some_docket()
        before = state_of(docket)
        thing = Odd()
        self.assertIs(docket.tried(lambda held: thing), thing)
        self.assertIs(docket.tried(lambda held: held), docket)
        self.assertEqual(docket.tried(lambda held: [held.shut(0), held.shut_years]), [None, (0, 2)])
        self.assertEqual(docket.tried(lambda held: held.take_back(3).number), 3)
        self.assertEqual(state_of(docket), before)


class AnswersTest(Case):
    def test_told_stands_and_answers(self):
        for seed in range(60):
            custom = lively_custom(seed)
            history = random_history(seed, custom.kinds, 5, 2)
            docket = Docket(custom, max(1, len(history)), ahead=seed % 2 == 1)
            for year, deeds in enumerate(history.years):
                for place, deed in enumerate(deeds):
                    docket.tell(year, place, deed)
                if year % 3 == 1:
                    docket.shut(year)
            self.assertEqual(docket.told_history().first(len(history)), history)
            ends = told_ends(custom, docket.told_history())
            for year in range(len(docket)):
                self.assertEqual(docket.told_stand(year), ends[year + 1])
                for question in (Room(), Who(custom.seats[-1])):
                    self.assertEqual(told_answer(docket, year, question), told_by_hand(custom, ends[year + 1], question))

    def test_errors_of_told_answers(self):
        docket = some_docket()
        for bad in (None, Odd(), 3):
            self.refuses((BadQuestion, "question"), told_answer, docket, None, bad)
        self.refuses((BadQuestion, "seat"), told_answer, docket, 9, Who("far"))
        self.refuses((BadQuestion, "number"), told_answer, docket, 9, Reached("idle", 4))
        self.refuses((NoYear, 3), told_answer, docket, 3, Reached("idle", 3))

    def test_abstracts(self):
        docket = some_docket()
        kinds = docket.custom.kinds
        entries = [Holding(docket.rows[0]), Holding(()), Known([("sells", "bob", "cy")])]
        for year in range(3):
            self.assertEqual(docket.abstract_to(year), Abstract(kinds, entries[:year + 1], whole=True))
        ahead = Docket.replayed(docket.custom, 3, docket.log, ahead=True)
        for year in range(3):
            self.assertEqual(ahead.abstract_to(year), Abstract(kinds, entries[:year + 1]))
        docket.shut(0)
        self.assertEqual(docket.abstract_to(0), Abstract(kinds, [Known(docket.rows[0])], whole=True))

    def test_what_fills_a_docket(self):
        docket = some_docket()
        kinds = docket.custom.kinds
        first, last = docket.rows[0], docket.rows[2]
        fills = docket.abstract_to(2).fills
        self.assertTrue(fills(docket.told_history()))
        self.assertTrue(fills(History(kinds, [[("takes", "q"), *first, ("takes", "q")], [("takes", "q")], last])))
        self.assertFalse(fills(History(kinds, [first[1:], [], last])))
        self.assertFalse(fills(History(kinds, [first[::-1], [], last])))
        self.assertFalse(fills(History(kinds, [first, [], [*last, ("takes", "q")]])))
        self.assertFalse(fills(History(kinds, [[], first, [], last])))
        self.assertFalse(fills(History(kinds, [first, []])))
        ahead = Docket.replayed(docket.custom, 3, docket.log, ahead=True).abstract_to(2).fills
        self.assertTrue(ahead(History(kinds, [[], first, [], last])))
        self.assertFalse(ahead(History(kinds, [first, []])))


class DrawnDocketsTest(Case):
    """Drawn changes, against a plain list of numbered deeds for each year."""

    def test_drawn_changes(self):
        met = set()
        custom = clocked_custom(1, 1, kinds=[("x", 1), ("y", 2), ("z", 0)], clauses=[Clause("x", [], [Put("p", "first")])])
        for seed in range(150):
            rnd = random.Random(seed)
            docket = Docket(custom, rnd.randint(1, 8), ahead=seed % 2 == 0)
            rows, shut, log, number = [[] for _ in docket], set(), [], 0
            for _ in range(rnd.randint(1, 40)):
                change, wanted = self.drawn_change(rnd, rows, shut, number)
                self.make(docket, change, wanted, rows, shut, log, number)
                met.add(wanted if isinstance(wanted, str) else change[0])
                number += wanted is None and change[0] == "tell"
                self.compare(docket, rows, shut, log)
            again = Docket.replayed(custom, len(docket), docket.log, ahead=docket.ahead)
            self.assertEqual(again, docket)
            self.assertEqual(state_of(again), state_of(docket))
            self.assertEqual((next_number(again), next_number(docket)), (number, number))
        self.assertEqual(met, {"tell", "take back", "shut", "reopen", "NoYear", "YearIsShut", "YearIsNotShut", "NoPlace",
                               "NoNews", "Overfull", "BadDeed"})

    def drawn_change(self, rnd, rows, shut, number):
        """A change, and the name of the error that is due, or None."""
        year = rnd.choice([*range(len(rows))] * 4 + [len(rows)])
        word = rnd.choice(("tell", "tell", "tell", "tell", "take back", "shut", "reopen"))
        wanted = "NoYear" if year == len(rows) else None
        if word == "tell":
            place = rnd.randint(0, len(rows[year]) if wanted is None else 3) + (rnd.random() < 0.05)
            deed = rnd.choice((("x", rnd.choice("abcdefgh")), ("y", rnd.choice("abcd"), rnd.choice("abcd")), ("z",), ("z", "a")))
            named = {person for row in rows for _, told in row for person in told[1:]} | set(deed[1:])
            if wanted is None:
                if year in shut:
                    wanted = "YearIsShut"
                elif place > len(rows[year]):
                    wanted = "NoPlace"
                elif deed == ("z", "a"):
                    wanted = "BadDeed"
                elif sum(len(row) for row in rows) == 12 or len(named) > 6:
                    wanted = "Overfull"
            return (word, year, place, deed), wanted
        if word == "take back":
            back = rnd.randint(0, number)
            years = [at for at, row in enumerate(rows) if back in [told for told, _ in row]]
            wanted = "NoNews" if not years else "YearIsShut" if years[0] in shut else None
            return (word, back), wanted
        if wanted is None and (word == "shut") == (year in shut):
            wanted = "YearIsShut" if word == "shut" else "YearIsNotShut"
        return (word, year), wanted

    def make(self, docket, change, wanted, rows, shut, log, number):
        """Make the change to the docket and to the rows."""
        if wanted is not None:
            before = state_of(docket)
            with self.assertRaises(SearchError) as caught:
                docket.do(change)
            self.assertEqual(type(caught.exception).__name__, wanted)
            self.assertEqual(state_of(docket), before)
            return
        log.append(change)
        if change[0] == "tell":
            self.assertEqual(docket.tell(*change[1:]), number)
            rows[change[1]].insert(change[2], (number, change[3]))
        elif change[0] == "take back":
            year = [at for at, row in enumerate(rows) if change[1] in [told for told, _ in row]][0]
            place = [told for told, _ in rows[year]].index(change[1])
            deed = rows[year].pop(place)[1]
            self.assertEqual(docket.take_back(change[1]), News(change[1], year, place, deed))
        elif change[0] == "shut":
            docket.shut(change[1])
            shut.add(change[1])
        else:
            docket.do(list(change))
            shut.discard(change[1])

    def compare(self, docket, rows, shut, log):
        self.assertEqual(docket.rows, tuple(tuple(deed for _, deed in row) for row in rows))
        self.assertEqual(docket.shut_years, tuple(sorted(shut)))
        self.assertEqual(docket.log, tuple(log))
        news = [(number, year, place, deed) for year, row in enumerate(rows) for place, (number, deed) in enumerate(row)]
        self.assertEqual([(one.number, one.year, one.place, one.deed) for one in docket.news()], sorted(news))
        persons = dict.fromkeys(person for row in rows for _, deed in row for person in deed[1:])
        self.assertEqual(docket.persons, tuple(persons))


if __name__ == "__main__":
    unittest.main()
