import itertools
import random
import unittest

from searchback.clauses import AtLeast, Clause, InRoom, Put, ToRoom, Zero
from searchback.docket import Docket, told_answer
from searchback.errors import BadQuestion, NoYear, SearchError, TooLoose, TooMany
from searchback.fillings import Sure, Unsure
from searchback.latenews import least_shuttings, loose_years, settled_years, sure_at
from searchback.layers import placings
from searchback.margins import margin_of
from searchback.questions import Filled, Room, Who
from searchback.searching import search_years
from searchback.surejudge import sure_fault
from tests.dockets import drawn_docket, drawn_dockets, told_sure
from tests.helpers import (
    NO_WHOLES, Case, Odd, clocked_custom, drawn_questions, fading_custom, plain_custom, told_layers,
)
from tests.test_docket import state_of


def telling_custom():
    """The last record tells the owner, who loses the thing behind three years without one."""
    return clocked_custom(1, 1, 3, kinds=[("x", 1)], clauses=[
        Clause("x", [], [Put("p", "first"), Zero("k")]), Clause("year", [AtLeast("k", 3)], [Put("p", "nobody")])])


class SureTest(Case):
    def test_the_example(self):
        docket = Docket(plain_custom(), 3)
        self.assertEqual([docket.tell(0, 0, ("takes", "ann")), docket.tell(1, 0, ("sells", "ann", "bob"))], [0, 1])
        who = Who("owner")
        self.assertEqual([told_answer(docket, 1, who), margin_of(docket, 1, who).needed], ["bob", 1])
        self.assertIs(docket.shut(0), None)
        self.assertEqual(least_shuttings(docket, 1, who), ((1,),))
        self.assertEqual(docket.tried(lambda held: [held.shut(1), sure_at(held, 1, who).answer]), [None, "bob"])
        self.assertEqual((docket.shut_years, settled_years(docket, who), loose_years(docket, 1, who)), ((0,), (0,), (1,)))

    def test_against_all_histories(self):
        met = set()
        for seed, docket, year, question in drawn_dockets(150):
            told = told_sure(docket, year, question, docket.shut_years)
            result = sure_at(docket, year, question)
            self.assertIsNone(sure_fault(docket.custom, docket.abstract_to(year), question, result))
            if told is None:
                self.assertIs(type(result), Unsure, seed)
                for history in (result.one, result.other):
                    self.assertTrue(docket.abstract_to(year).fills(history))
            else:
                self.assertIs(type(result), Sure, seed)
                self.assertEqual((result.answer,), told)
                layers = told_layers(docket.custom, docket.abstract_to(year))
                self.assertEqual([{stand.code for stand in layer} for layer in result.layers], layers)
            wanted = [at for at in range(len(docket)) if told_sure(docket, at, question, docket.shut_years) is not None]
            self.assertEqual(settled_years(docket, question), tuple(wanted), seed)
            met.add((docket.ahead, told is None, len(wanted)))
        self.assertEqual({row[:2] for row in met}, set(itertools.product((True, False), (True, False))))
        self.assertEqual({many for _, _, many in met}, {0, 1, 2, 3})

    def test_who_is_named_later_is_never_sure(self):
        docket = Docket(telling_custom(), 3)
        docket.tell(0, 0, ("x", "ann"))
        docket.tell(1, 0, ("x", "bob"))
        self.assertEqual(settled_years(docket, Who("p")), ())
        docket.shut(1)
        self.assertEqual(settled_years(docket, Who("p")), (1,))
        docket.shut(2)
        docket.shut(0)
        self.assertEqual(settled_years(docket, Who("p")), (0, 1, 2))


class ShuttingsTest(Case):
    def test_written_lots(self):
        docket = Docket(telling_custom(), 5)
        docket.tell(2, 0, ("x", "ann"))
        self.assertEqual(least_shuttings(docket, 2, Who("p")), ((2,),))
        self.assertEqual(least_shuttings(docket, 3, Who("p")), ((2, 3),))
        # Behind two years more without a record nobody is the owner.
        self.assertEqual(least_shuttings(docket, 4, Who("p")), ((3, 4),))
        docket.shut(3)
        self.assertEqual(least_shuttings(docket, 4, Who("p")), ((4,),))
        self.assertEqual(loose_years(docket, 4, Who("p")), (4,))
        docket.shut(2)
        docket.shut(4)
        self.assertEqual(least_shuttings(docket, 4, Who("p")), ((),))
        self.assertEqual(loose_years(docket, 4, Who("p")), ())
        self.assertEqual(loose_years(docket, 1, Who("p")), (0, 1))
        # Where not even all years are enough.
        ahead = Docket(telling_custom(), 2, ahead=True)
        self.assertEqual(least_shuttings(ahead, 0, Who("p")), ())
        self.assertEqual(loose_years(ahead, 0, Who("p")), (0,))
        self.assertEqual(loose_years(ahead, 1, Who("p")), (0, 1))
        self.assertEqual(least_shuttings(ahead, 1, Who("p")), ((0, 1),))

    def test_several_least_lots(self):
        # Only deeds in two unlike years fill the seat, so either of two years may be shut.
        custom = clocked_custom(2, 1, 1, clauses=[
            Clause("x", [InRoom("s"), AtLeast("k", 1)], [Put("p", "first")]), Clause("x", [InRoom("r")], [ToRoom("s"), Zero("k")])])
        docket = Docket(custom, 4)
        self.assertEqual(least_shuttings(docket, 0, Filled("p")), ((),))
        self.assertEqual(least_shuttings(docket, 1, Filled("p")), ((0,), (1,)))
        self.assertEqual(loose_years(docket, 1, Filled("p")), ())
        self.assertEqual(least_shuttings(docket, 2, Filled("p")), ((0, 1), (0, 2), (1, 2)))
        docket.tell(1, 0, ("x", "ann"))
        self.assertEqual(least_shuttings(docket, 2, Filled("p")), ((0, 2),))
        docket.tell(3, 0, ("x", "bob"))
        self.assertEqual((least_shuttings(docket, 3, Filled("p")), sure_at(docket, 3, Filled("p")).answer), (((),), True))
        self.assertEqual(least_shuttings(docket, 3, Who("p")), ((3,),))
        self.assertEqual(Docket(custom, 2, ahead=True).tried(lambda held: least_shuttings(held, 1, Filled("p"))), ())

    def test_against_all_lots_of_years(self):
        met = set()
        for seed, docket, year, question in drawn_dockets(150, 300, years=4):
            open_years = [at for at in range(year + 1) if at not in docket.shut_years]
            enough = {}
            for many in range(len(open_years) + 1):
                for lot in itertools.combinations(open_years, many):
                    enough[lot] = told_sure(docket, year, question, (*docket.shut_years, *lot)) is not None
            least = []
            for lot, sure in enough.items():
                if sure and not any(enough[tuple(one for one in lot if one != left)] for left in lot):
                    least.append(lot)
            self.assertEqual(least_shuttings(docket, year, question), tuple(least), seed)
            loose = [one for one in open_years if not enough[tuple(other for other in open_years if other != one)]]
            self.assertEqual(loose_years(docket, year, question), tuple(loose), seed)
            self.is_tuple_throughout(least_shuttings(docket, year, question))
            # The loose years are those that all least lots have; if there is none, all that are not shut.
            common = [one for one in open_years if all(one in lot for lot in least)]
            self.assertEqual(loose, common)
            met.add((len(least), max([len(lot) for lot in least], default=None)))
        self.assertLessEqual({(0, None), (1, 0), (1, 1), (1, 2)}, met)

    def test_shutting_more_keeps_what_is_sure(self):
        for seed, docket, year, question in drawn_dockets(60, 600):
            for lot in least_shuttings(docket, year, question):
                def call(held, lot=lot, also=seed % (year + 1), year=year, question=question):
                    for one in (*lot, *([also] if also not in (*lot, *held.shut_years) else [])):
                        held.shut(one)
                    return type(sure_at(held, year, question))
                self.assertIs(docket.tried(call), Sure)


class StatementsTest(Case):
    def test_what_is_sure_stays_sure(self):
        told = shut = 0
        for seed, docket, year, question in drawn_dockets(200, 900):
            result = sure_at(docket, year, question)
            if isinstance(result, Unsure):
                continue
            rnd = random.Random(seed)
            for _ in range(3):
                at = rnd.randrange(len(docket))
                name, arity = rnd.choice(docket.custom.kinds.rows)
                deed = (name, *[rnd.choice(("ann", "zed", "q")) for _ in range(arity)])
                if at not in docket.shut_years:
                    docket.tell(at, rnd.randint(0, len(docket.rows[at])), deed)
                    told += 1
                    self.assertEqual(sure_at(docket, year, question).answer, result.answer)
            for at in range(len(docket)):
                if at not in docket.shut_years:
                    docket.shut(at)
                    shut += 1
                    self.assertEqual(sure_at(docket, year, question).answer, result.answer)
        self.assertGreater(min(told, shut), 30)

    def test_what_is_taken_back_or_reopened_need_not_stay_sure(self):
        docket = Docket.replayed(telling_custom(), 1, [("tell", 0, 0, ("x", "ann")), ("shut", 0)])
        self.assertEqual(sure_at(docket, 0, Who("p")).answer, "ann")
        docket.reopen(0)
        self.assertIs(type(sure_at(docket, 0, Who("p"))), Unsure)

    def test_all_years_shut(self):
        for seed, docket, year, question in drawn_dockets(80, 1200):
            for at in range(year + 1):
                if at not in docket.shut_years:
                    docket.shut(at)
            if not docket.ahead:
                self.assertEqual(sure_at(docket, year, question).answer, told_answer(docket, year, question))
            self.assertEqual(loose_years(docket, year, question), ())

    def test_the_order_in_which_news_came_does_not_count(self):
        for seed, docket, year, question in drawn_dockets(60, 1500):
            rows = [("tell", at, place, deed) for at, row in enumerate(docket.rows) for place, deed in enumerate(row)]
            # The last deed of each year first, each put in front of the others.
            turned = [("tell", at, 0, deed) for _, at, _, deed in rows[::-1]]
            for log in (rows, turned):
                other = Docket.replayed(docket.custom, len(docket), [
                    *log, *[("shut", at) for at in docket.shut_years[::-1]]], ahead=docket.ahead)
                self.assertEqual(other, docket)
                one, two = sure_at(docket, year, question), sure_at(other, year, question)
                self.assertEqual((type(one), getattr(one, "answer", None)), (type(two), getattr(two, "answer", None)))
                self.assertEqual(settled_years(other, question), settled_years(docket, question))

    def test_the_number_of_years_is_enough(self):
        met = set()
        for seed in range(240):
            custom = fading_custom(seed)
            question = drawn_questions(seed, custom)[0]
            number = search_years(custom, question)
            docket = drawn_docket(seed, custom, years=6, deeds=6)
            year = len(docket) - 1
            if number is None or number > year + 1:
                continue
            for at in range(year + 1):
                wanted = at > year - number
                if wanted != (at in docket.shut_years):
                    (docket.shut if wanted else docket.reopen)(at)
            self.assertIs(type(sure_at(docket, year, question)), Sure)
            met.add((number, docket.ahead))
        self.assertLessEqual(set(itertools.product((1, 2, 3), (True, False))), met)


class ErrorsTest(Case):
    def test_errors_in_order(self):
        big = Docket(clocked_custom(1, 2, 40), 8)
        for call in (sure_at, least_shuttings, loose_years, margin_of):
            for bad in (None, Odd(), 3):
                self.refuses((BadQuestion, "question"), call, big, None, bad)
            self.refuses((BadQuestion, "seat"), call, big, 9, Who("far"))
            for bad in (*NO_WHOLES, -1, 8):
                self.refuses((NoYear, bad), call, big, bad, Room())
            for year in range(5):
                self.refuses((TooMany, 410), call, big, year, Room())
        self.refuses((BadQuestion, "seat"), settled_years, big, Who("far"))
        self.refuses((TooMany, 410), settled_years, big, Room())
        for year in (5, 6, 7):
            self.refuses((TooLoose, year + 1), least_shuttings, big, year, Room())
            self.refuses((TooMany, 410), loose_years, big, year, Room())
        big.shut(7)
        big.shut(3)
        self.refuses((TooLoose, 6), least_shuttings, big, 7, Room())
        big.shut(0)
        self.refuses((TooMany, 410), least_shuttings, big, 7, Room())

    def test_five_years_that_are_not_shut_and_six(self):
        docket = Docket(telling_custom(), 8)
        docket.tell(4, 0, ("x", "ann"))
        self.assertEqual(least_shuttings(docket, 4, Who("p")), ((4,),))
        self.refuses((TooLoose, 6), least_shuttings, docket, 5, Who("p"))
        docket.shut(0)
        self.assertEqual(least_shuttings(docket, 5, Who("p")), ((4, 5),))
        self.refuses((TooLoose, 6), least_shuttings, docket, 6, Who("p"))
        self.assertEqual(loose_years(docket, 6, Who("p")), (5, 6))

    def test_too_many_placings(self):
        custom = clocked_custom(1, 3, 12)
        docket = Docket(custom, 4)
        counts = [placings(custom, named) for named in range(7)]
        self.assertEqual(counts[2:6], [2002, 3666, 6110, 9490])
        for at, person in enumerate("abcd"):
            docket.tell(0 if at < 3 else 2, 0, ("x", person))
        for call in (sure_at, least_shuttings, loose_years, margin_of):
            call(docket, 1, Room())
            self.refuses((TooMany, 6110), call, docket, 2, Room())
            self.refuses((TooMany, 6110), call, docket, 3, Room())
        self.refuses((TooMany, 6110), settled_years, docket, Room())
        # The first year with too many is told of.
        docket.tell(3, 0, ("x", "f"))
        self.refuses((TooMany, 6110), settled_years, docket, Room())
        self.refuses((TooMany, 9490), sure_at, docket, 3, Room())
        docket.tell(0, 0, ("x", "f"))
        self.refuses((TooMany, 6110), settled_years, docket, Room())
        self.refuses((TooMany, 9490), sure_at, docket, 2, Room())

    def test_just_4000_placings(self):
        custom = clocked_custom(1, 2, 39)
        docket = Docket(custom, 1)
        for person in "abcde":
            docket.tell(0, 0, ("x", person))
        self.assertEqual((placings(custom, 5), placings(custom, 6)), (4000, 5200))
        self.assertEqual(settled_years(docket, Room()), (0,))
        self.assertIsNone(margin_of(docket, 0, Room()))
        docket.tell(0, 0, ("x", "f"))
        self.refuses((TooMany, 5200), settled_years, docket, Room())
        self.refuses((TooMany, 5200), margin_of, docket, 0, Room())

    def test_nothing_is_changed(self):
        for seed, docket, year, question in drawn_dockets(30, 1800):
            before = state_of(docket)
            for call in (sure_at, least_shuttings, loose_years, margin_of):
                try:
                    call(docket, year, question)
                except SearchError:
                    self.fail(seed)
            settled_years(docket, question)
            self.assertEqual(state_of(docket), before)


if __name__ == "__main__":
    unittest.main()
