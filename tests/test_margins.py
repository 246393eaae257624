import itertools
import random
import unittest

from searchback.clauses import Clause, InRoom, Put, ToRoom
from searchback.docket import Docket, told_answer
from searchback.errors import BadQuestion, NoYear, TooMany
from searchback.fillings import Sure
from searchback.histories import History
from searchback.kinds import Kinds
from searchback.latenews import sure_at
from searchback.margins import Margin, margin_fault, margin_of
from searchback.questions import Filled, Reached, Room, Who
from searchback.stand import Stand
from searchback.walks import answer_of
from tests.dockets import drawn_dockets
from tests.helpers import (
    NO_WHOLES, Case, Odd, all_deeds, clocked_custom, plain_custom, told_after, told_answer as told_by_hand, told_end,
    told_placed,
)
from tests.test_latenews import telling_custom


def told_needed(docket, year, question):
    """The least number of deeds that change the answer: they are put in one by one, wherever they can stand."""
    custom = docket.custom
    named = docket.abstract_to(year).persons
    names = (*named, *[label for label in "abcdefghijkl" if label not in named][:len(custom.seats) + 2])
    deeds = all_deeds(custom.kinds, names)
    steps = [(step, at not in docket.shut_years) for at in range(year + 1) for step in (*docket.rows[at], None)]
    told = told_by_hand(custom, docket.told_stand(year), question)
    seen, new, needed = set(), {(0, custom.start.code)}, 0
    while new:
        waiting = list(new)
        while waiting:
            place, code = waiting.pop()
            if place < len(steps):
                step = steps[place][0]
                stand = told_end(custom, Stand(*code)) if step is None else told_after(custom, Stand(*code), step)
                state = (place + 1, told_placed(stand, named).code)
                if state not in seen | new:
                    new.add(state)
                    waiting.append(state)
        ends = [code for place, code in new if place == len(steps)]
        if any(told_by_hand(custom, Stand(*code), question) != told for code in ends):
            return needed
        seen |= new
        needed += 1
        new = {(place, told_placed(told_after(custom, Stand(*code), deed), named).code)
               for place, code in new if place < len(steps) and steps[place][1] for deed in deeds} - seen
    return None


class MarginTest(Case):
    def test_written_margins(self):
        docket = Docket(telling_custom(), 3)
        docket.tell(0, 0, ("x", "ann"))
        margin = margin_of(docket, 0, Who("p"))
        self.assertEqual((type(margin), margin.needed, margin.example.years[0][0]), (Margin, 1, ("x", "ann")))
        self.assertNotEqual(margin.example.years[0][1], ("x", "ann"))
        self.assertIsNone(margin_of(docket, 0, Filled("p")))
        docket.shut(0)
        self.assertIsNone(margin_of(docket, 0, Who("p")))
        self.assertEqual(margin_of(docket, 2, Who("p")).needed, 1)
        self.assertEqual(margin_of(docket, 2, Filled("p")).needed, 1)
        docket.shut(1)
        docket.shut(2)
        self.assertIsNone(margin_of(docket, 2, Filled("p")))
        # Ahead counts as False.
        docket = Docket(telling_custom(), 1, ahead=True)
        docket.shut(0)
        self.assertIsNone(margin_of(docket, 0, Who("p")))

    def test_several_deeds(self):
        custom = plain_custom()
        docket = Docket(custom, 3)
        docket.tell(0, 0, ("takes", "ann"))
        docket.shut(0)
        docket.shut(2)
        # Three idle years end the holding, if ann does not sell to herself in the second one.
        self.assertEqual((told_answer(docket, 2, Filled("owner")), margin_of(docket, 2, Filled("owner")).needed), (False, 1))
        self.assertIsNone(margin_of(docket, 0, Filled("owner")))
        docket.reopen(2)
        docket.tell(2, 0, ("sells", "bob", "cy"))
        # Ann sells to bob ahead of the sale by bob.
        margin = margin_of(docket, 2, Who("owner"))
        self.assertEqual(margin.needed, 1)
        docket.shut(2)
        margin = margin_of(docket, 2, Who("owner"))
        self.assertEqual((margin.needed, [len(deeds) for deeds in margin.example.years]), (1, [1, 1, 1]))
        docket.reopen(0)
        docket.take_back(0)
        docket.shut(0)
        docket.shut(1)
        self.assertIsNone(margin_of(docket, 2, Who("owner")))
        docket.reopen(1)
        self.assertEqual(margin_of(docket, 2, Who("owner")).needed, 1)

    def test_two_and_three_deeds(self):
        custom = clocked_custom(3, 1, kinds=[("x", 1), ("y", 0)], clauses=[
            Clause("y", [InRoom("r")], [ToRoom("s")]), Clause("y", [InRoom("s")], [ToRoom("t")]),
            Clause("x", [InRoom("t")], [Put("p", "first")])])
        docket = Docket(custom, 2)
        docket.shut(0)
        self.assertEqual([margin_of(docket, 1, question).needed for question in (Room(), Who("p"), Filled("p"))], [1, 3, 3])
        docket.tell(1, 0, ("x", "ann"))
        self.assertEqual([margin_of(docket, 1, question).needed for question in (Room(), Who("p"))], [1, 2])
        self.assertEqual(margin_of(docket, 1, Who("p")).example.years, ((), (("y",), ("y",), ("x", "ann"))))
        docket.tell(1, 0, ("y",))
        self.assertEqual(margin_of(docket, 1, Who("p")).needed, 1)
        docket.shut(1)
        self.assertIsNone(margin_of(docket, 1, Who("p")))
        self.assertIsNone(margin_of(docket, 0, Room()))

    def test_against_putting_deeds_in_one_by_one(self):
        met = set()
        for seed, docket, year, question in drawn_dockets(220, years=4):
            needed = told_needed(docket, year, question)
            margin = margin_of(docket, year, question)
            met.add(needed)
            self.assertEqual(None if margin is None else margin.needed, needed, seed)
            if margin is not None:
                self.assertIs(type(margin), Margin)
                self.assertIsNone(margin_fault(docket, year, question, margin))
                self.assertEqual(len(margin.example), year + 1)
                many = sum(len(deeds) for deeds in docket.rows[:year + 1])
                self.assertEqual(margin.example.deed_count, many + needed)
                self.assertNotEqual(answer_of(docket.custom, margin.example, question), told_answer(docket, year, question))
                self.assertTrue(docket.abstract_to(year).fills(margin.example))
                self.is_tuple_throughout(margin.example.years)
        self.assertLessEqual({None, 1, 2}, met)

    def test_against_all_rows_with_one_deed_more(self):
        for seed, docket, year, question in drawn_dockets(60, 400, years=2):
            kinds = docket.custom.kinds
            deeds = all_deeds(kinds, (*docket.persons, "y", "z"))
            told = told_answer(docket, year, question)
            rows = docket.rows[:year + 1]
            changed = False
            for at in range(year + 1):
                for place in range(len(rows[at]) + 1) if at not in docket.shut_years else ():
                    for deed in deeds:
                        more = [*rows]
                        more[at] = (*rows[at][:place], deed, *rows[at][place:])
                        changed = changed or answer_of(docket.custom, History(kinds, more), question) != told
            margin = margin_of(docket, year, question)
            self.assertIs(changed, margin is not None and margin.needed == 1, seed)


class StatementsTest(Case):
    def test_none_if_the_answer_is_sure(self):
        for seed, docket, year, question in drawn_dockets(120, 600):
            if not docket.ahead:
                sure = isinstance(sure_at(docket, year, question), Sure)
                self.assertIs(margin_of(docket, year, question) is None, sure)

    def test_shutting_a_year_makes_no_margin_smaller(self):
        for seed, docket, year, question in drawn_dockets(80, 800):
            margin = margin_of(docket, year, question)
            for at in range(len(docket)):
                if at not in docket.shut_years:
                    docket.shut(at)
                    after = margin_of(docket, year, question)
                    self.assertTrue(after is None or margin is not None and after.needed >= margin.needed)
                    margin = after

    def test_one_news(self):
        met = set()
        for seed, docket, year, question in drawn_dockets(200, 1000):
            rnd = random.Random(seed)
            loose = [at for at in range(year + 1) if at not in docket.shut_years]
            margin, told = margin_of(docket, year, question), told_answer(docket, year, question)
            for at in loose:
                name, arity = rnd.choice(docket.custom.kinds.rows)
                deed = (name, *[rnd.choice(("ann", "zed", "q")) for _ in range(arity)])
                after = docket.tried(lambda held, at=at, deed=deed: (
                    held.tell(at, rnd.randint(0, len(held.rows[at])), deed), told_answer(held, year, question),
                    margin_of(held, year, question)))
                if after[1] == told:
                    if margin is None:
                        self.assertIsNone(after[2])
                    elif after[2] is not None:
                        self.assertGreaterEqual(after[2].needed, margin.needed - 1)
                        met.add(after[2].needed - margin.needed)
                else:
                    self.assertEqual(margin.needed, 1)
                    met.add("changed")
        self.assertLessEqual({-1, 0, "changed"}, met)


class FaultTest(Case):
    def setUp(self):
        self.docket = Docket(plain_custom(), 3)
        self.docket.tell(0, 0, ("takes", "ann"))
        self.docket.tell(1, 0, ("sells", "ann", "bob"))
        self.docket.shut(0)
        self.kinds = self.docket.custom.kinds

    def judged(self, word, needed, years, year=1):
        margin = Margin(needed, History(self.kinds, years))
        self.assertEqual(margin_fault(self.docket, year, Who("owner"), margin), word)

    def test_each_word(self):
        first, sale = [("takes", "ann")], ("sells", "ann", "bob")
        more = ("sells", "bob", "cy")
        self.judged(None, 1, [first, [sale, more]])
        self.judged(None, 3, [first, [("takes", "q"), sale, ("takes", "q"), more]])
        for thing in (None, Odd(), 1, (1, History(self.kinds, [first, [sale, more]])), "margin"):
            self.assertEqual(margin_fault(self.docket, 1, Who("owner"), thing), "margin")
        for bad in (*NO_WHOLES, 0, -1):
            self.judged("needed", bad, [first, [sale, more]])
        for bad in (None, 3, [first, [sale, more]], History(Kinds([("takes", 1), ("sells", 2)]), [first, [sale, more]]),
                    History(self.kinds, [[], first, [sale, more]]), History(self.kinds, [[*first, sale, more]])):
            self.assertEqual(margin_fault(self.docket, 1, Who("owner"), Margin(1, bad)), "example")
        self.judged("deeds", 2, [first, [sale, more]])
        self.judged("deeds", 1, [first, [sale]])
        self.judged("deeds", 1, [first, []])
        self.judged("rows", 1, [[*first, ("takes", "q")], [sale]])
        self.judged("rows", 1, [first, [more, more]])
        self.judged("rows", 1, [[], [first[0], sale, more]])
        self.judged("answer", 1, [first, [sale, ("takes", "cy")]])
        # Whether fewer deeds are enough is not asked.
        self.judged(None, 2, [first, [sale, more, ("sells", "cy", "dan")]])
        self.judged("answer", 2, [first, [sale, more, ("sells", "cy", "bob")]])

    def test_two_words_at_once(self):
        first, sale = [("takes", "ann")], ("sells", "ann", "bob")
        margin = Margin(0, None)
        self.assertEqual(margin_fault(self.docket, 1, Who("owner"), margin), "needed")
        self.judged("example", 9, [first])
        self.judged("deeds", 9, [[], [sale]])
        self.judged("rows", 1, [[*first, ("takes", "q")], [sale]])

    def test_years_behind_do_not_count(self):
        self.docket.tell(2, 0, ("takes", "q"))
        self.judged(None, 1, [[("takes", "ann")], [("sells", "ann", "bob"), ("sells", "bob", "cy")]])
        # Where anything may have gone ahead, a history of so many years fills the docket as well.
        docket = Docket.replayed(self.docket.custom, 3, self.docket.log, ahead=True)
        example = History(self.kinds, [[("takes", "ann")], [("sells", "ann", "bob"), ("sells", "bob", "cy")]])
        self.assertIsNone(margin_fault(docket, 1, Who("owner"), Margin(1, example)))
        self.assertEqual(margin_of(docket, 1, Who("owner")).needed, 1)

    def test_errors_in_order(self):
        for bad in (None, Odd(), 3):
            self.refuses((BadQuestion, "question"), margin_fault, self.docket, None, bad, None)
        self.refuses((BadQuestion, "number"), margin_fault, self.docket, 9, Reached("idle", 4), None)
        for bad in (*NO_WHOLES, -1, 3):
            self.refuses((NoYear, bad), margin_fault, self.docket, bad, Room(), None)
        big = Docket(clocked_custom(1, 2, 40), 1)
        self.refuses((TooMany, 410), margin_of, big, 0, Room())
        self.assertEqual(margin_fault(big, 0, Room(), None), "margin")

    def test_changed_examples(self):
        met = set()
        for seed, docket, year, question in drawn_dockets(120, 1500):
            margin = margin_of(docket, year, question)
            if margin is None:
                continue
            rnd = random.Random(seed)
            for _ in range(4):
                years = [list(deeds) for deeds in margin.example.years]
                at = rnd.randrange(len(years))
                choice = rnd.randrange(3)
                if choice == 0 and years[at]:
                    years[at].pop(rnd.randrange(len(years[at])))
                elif choice == 1 and years[at]:
                    years[rnd.randrange(len(years))].append(years[at].pop())
                else:
                    rnd.shuffle(years[at])
                example = History(docket.custom.kinds, years)
                word = margin_fault(docket, year, question, Margin(margin.needed, example))
                told = None
                if example.deed_count != margin.example.deed_count:
                    told = "deeds"
                elif not docket.abstract_to(year).fills(example):
                    told = "rows"
                elif answer_of(docket.custom, example, question) == told_answer(docket, year, question):
                    told = "answer"
                self.assertEqual(word, told)
                met.add(word)
        self.assertEqual(met, {None, "deeds", "rows", "answer"})

    def test_attributes(self):
        margin = Margin(3, "x")
        self.assertEqual((margin.needed, margin.example), (3, "x"))
        self.assertEqual(list(itertools.islice(vars(margin), 2)), ["needed", "example"])


if __name__ == "__main__":
    unittest.main()
