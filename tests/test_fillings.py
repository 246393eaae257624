import itertools
import unittest

from searchback.abstracts import Abstract, abstract_of
from searchback.clauses import Apart, Clause, Is, Put
from searchback.entries import Holding, Known, Noted, Unknown, Without
from searchback.errors import BadQuestion, OtherKinds, TooMany
from searchback.fillings import Answers, Sure, Unsure, answers_of, filling_for, sure_answer
from searchback.histories import History
from searchback.kinds import Kinds
from searchback.layers import layers_of
from searchback.questions import Filled, Reached, Room, Together, Who
from searchback.searching import pasts_for, search_years
from searchback.stand import Stand
from searchback.walks import answer_of
from tests.helpers import (
    Case, EqualToAll, NO_LABELS, Odd, all_deeds, clocked_custom, drawn_questions, plain_custom, random_abstract,
    searched_customs, told_answer, told_ends, told_layers,
)

TAKING = clocked_custom(1, 2, kinds=[("x", 1), ("y", 2)], clauses=[
    Clause("x", [], [Put("p", "first")]), Clause("y", [Is("p", "first")], [Put("q", "second")])])


def drawn(many):
    """Customs with abstracts and questions."""
    for seed, custom in searched_customs(many):
        yield seed, custom, random_abstract(seed, custom.kinds), drawn_questions(seed, custom)[0]


def told_answers(custom, abstract, question):
    """The possible answers in order, and whether an unnamed person can be the answer."""
    found = {told_answer(custom, Stand(*code), question) for code in told_layers(custom, abstract)[-1]}
    if isinstance(question, Who):
        wanted = (*abstract.persons, None)
    else:
        wanted = custom.rooms if isinstance(question, Room) else (False, True)
    return tuple(answer for answer in wanted if answer in found), bool(found - set(wanted))


class AnswersTest(Case):
    def test_sure(self):
        for possible, others, told in [(("a",), False, True), ((None,), False, True), ((False,), False, True), ((), True, False),
                                       (("a",), True, False), (("a", None), False, False), ((False, True), False, False)]:
            answers = Answers(possible, others)
            self.assertEqual((answers.possible, answers.others), (possible, others))
            self.assertIs(answers.is_sure, told)

    def test_in_order(self):
        told = Known([("x", "zed"), ("x", "ann"), ("x", "bob")])
        abstract = Abstract(TAKING.kinds, [told, Without(["x"])])
        answers = answers_of(TAKING, abstract, Who("q"))
        self.assertEqual((answers.possible, answers.others), (("zed", "ann", "bob", None), True))
        self.assertEqual(answers_of(TAKING, abstract, Who("p")).possible, ("bob",))
        self.assertIs(answers_of(TAKING, abstract, Who("p")).others, False)
        self.assertEqual(answers_of(TAKING, abstract, Together("p", "q")).possible, (False, True))
        self.assertIs(answers_of(TAKING, abstract, Filled("q")).others, False)
        self.assertEqual(answers_of(TAKING, Abstract(TAKING.kinds, []), Who("p")).possible, (None,))
        self.assertIs(answers_of(TAKING, Abstract(TAKING.kinds, []), Who("p")).others, True)

    def test_rooms_in_the_order_of_the_custom(self):
        for seed, custom in searched_customs(40):
            found = answers_of(custom, Abstract(custom.kinds, []), Room()).possible
            self.assertEqual(found, tuple(room for room in custom.rooms if room in found))

    def test_against_a_plain_search(self):
        met = set()
        for seed, custom, abstract, question in drawn(150):
            found = answers_of(custom, abstract, question)
            self.assertEqual((found.possible, found.others), told_answers(custom, abstract, question), seed)
            self.assertIs(type(found.possible), tuple)
            self.assertIs(type(found.others), bool)
            met.add((type(question), found.is_sure, found.others))
        self.assertGreaterEqual(len(met), 10)

    def test_against_all_short_histories(self):
        for seed, custom, abstract, question in drawn(40):
            found = answers_of(custom, abstract, question)
            deeds = all_deeds(custom.kinds, ("ann", "zed"))
            for rows in itertools.product([(), *[(deed,) for deed in deeds[:7]]], repeat=min(3, len(abstract) + 1)):
                history = History(custom.kinds, rows)
                if abstract.fills(history):
                    answer = answer_of(custom, history, question)
                    unnamed = isinstance(question, Who) and answer is not None and answer not in abstract.persons
                    self.assertTrue(found.others if unnamed else answer in found.possible)


class FillingTest(Case):
    def test_all_answers(self):
        for seed, custom, abstract, question in drawn(150):
            possible, others = told_answers(custom, abstract, question)
            wanted = [*possible, *(("zed", "b", "q") if others else ())]
            for answer in wanted:
                filling = filling_for(custom, abstract, question, answer)
                self.assertEqual(filling.kinds, custom.kinds)
                self.assertTrue(abstract.fills(filling), seed)
                found = told_answer(custom, told_ends(custom, filling)[-1], question)
                self.assertEqual(found, answer, seed)
                self.assertIs(type(found), type(answer))
            for answer in (*abstract.persons, None, False, True, "r", "s", "zed"):
                unnamed = answer not in abstract.persons and isinstance(question, Who) and isinstance(answer, str)
                if not any(answer is one or answer == one and type(one) is str for one in possible) and not (unnamed and others):
                    self.assertIsNone(filling_for(custom, abstract, question, answer), (seed, answer))

    def test_any_label_of_an_unnamed_person(self):
        abstract = Abstract(TAKING.kinds, [Holding([("x", "ann")]), Noted(["y"], [("y", "a", "b")])])
        for answer in ("ann", "a", "b", "c", "d", "zed", "zzzzzz"):
            filling = filling_for(TAKING, abstract, Who("p"), answer)
            self.assertTrue(abstract.fills(filling))
            self.assertEqual(answer_of(TAKING, filling, Who("p")), answer)
        self.assertIsNone(filling_for(TAKING, abstract, Who("p"), None))

    def test_a_named_person_who_has_left(self):
        custom = clocked_custom(1, 1, kinds=[("take", 1), ("leave", 1)], clauses=[
            Clause("take", [Is("p", "nobody")], [Put("p", "first")]), Clause("leave", [Is("p", "first")], [Put("p", "nobody")])])
        abstract = Abstract(custom.kinds, [Unknown(), Known([("leave", "ann")])])
        answers = answers_of(custom, abstract, Who("p"))
        self.assertEqual((answers.possible, answers.others), ((None,), True))
        self.assertIsNone(filling_for(custom, abstract, Who("p"), "ann"))
        self.assertEqual(answer_of(custom, filling_for(custom, abstract, Who("p"), "anna"), Who("p")), "anna")

    def test_a_label_that_another_one_has(self):
        custom = clocked_custom(1, 2, kinds=[("y", 2)], clauses=[
            Clause("y", [Apart()], [Put("p", "first"), Put("q", "second")])])
        for answer in ("a", "b", "c", "zed"):
            for seat in ("p", "q"):
                filling = filling_for(custom, Abstract(custom.kinds, []), Who(seat), answer)
                self.assertEqual(answer_of(custom, filling, Who(seat)), answer)

    def test_what_is_no_answer(self):
        abstract = Abstract(TAKING.kinds, [])
        for answer in [*[one for one in NO_LABELS if one is not None], EqualToAll(), ()]:
            self.assertIsNone(filling_for(TAKING, abstract, Who("p"), answer))
        for answer in (0, 1, None, "r", "", EqualToAll(), [], Odd()):
            self.assertIsNone(filling_for(TAKING, abstract, Filled("p"), answer))
        for answer in (0, True, False, None, "p", "s", "a", EqualToAll(), [], Odd()):
            self.assertIsNone(filling_for(TAKING, abstract, Room(), answer))
        self.assertIsNotNone(filling_for(TAKING, abstract, Room(), "r"))
        self.assertIsNotNone(filling_for(TAKING, abstract, Filled("p"), True))

    def test_a_whole_abstract(self):
        for years in range(3):
            abstract = Abstract(TAKING.kinds, [Unknown()] * years, whole=True)
            self.assertEqual(len(filling_for(TAKING, abstract, Who("p"), None)), years)
            self.assertEqual(filling_for(TAKING, abstract, Who("p"), "zed") is None, years == 0)

    def test_two_hundred_years(self):
        custom = plain_custom()
        history = History(custom.kinds, [[("takes", "ann"), ("sells", "ann", "bob")], [], []] * 66)
        filling = filling_for(custom, abstract_of(history).hidden(0, 100, 197), Who("owner"), "zed")
        self.assertTrue(abstract_of(history).hidden(0, 100, 197).fills(filling))
        self.assertEqual(answer_of(custom, filling, Who("owner")), "zed")


class SureTest(Case):
    def test_against_a_plain_search(self):
        met = set()
        for seed, custom, abstract, question in drawn(150):
            possible, others = told_answers(custom, abstract, question)
            result = sure_answer(custom, abstract, question)
            met.add(type(result))
            if len(possible) == 1 and not others:
                self.assertIs(type(result), Sure)
                self.assertEqual(result.answer, possible[0])
                self.assertIs(type(result.answer), type(possible[0]))
                self.assertIs(type(result.layers), tuple)
                self.assertEqual([{stand.code for stand in layer} for layer in result.layers],
                                 [{stand.code for stand in layer} for layer in layers_of(custom, abstract)])
                continue
            self.assertIs(type(result), Unsure)
            answers = []
            for history in (result.one, result.other):
                self.assertTrue(abstract.fills(history))
                answers.append(answer_of(custom, history, question))
            self.assertNotEqual(answers[0], answers[1])
        self.assertEqual(met, {Sure, Unsure})

    def test_an_unnamed_person_is_never_sure(self):
        custom = clocked_custom(1, 1, kinds=[("x", 1)], clauses=[Clause("year", [Is("p", "nobody")], []), Clause("x", [], [Put("p", "first")])])
        result = sure_answer(custom, Abstract(custom.kinds, [Noted(["x"], [("x", "ann")]), Known([("x", "b")]), Known([])]), Who("p"))
        self.assertEqual(result.answer, "b")
        known = Known([("x", "b")])
        for entries in ([Unknown()], [known, Unknown()], [Holding([("x", "b")])]):
            result = sure_answer(custom, Abstract(custom.kinds, entries, whole=True), Who("p"))
            self.assertIs(type(result), Unsure)

    def test_within_another_one(self):
        sure = 0
        for seed, custom, abstract, question in drawn(150):
            result = sure_answer(custom, abstract, question)
            narrower = Abstract(custom.kinds, [
                Known(entry.told) if place % 2 else entry for place, entry in enumerate(abstract.years)], whole=abstract.whole)
            for one in (narrower, narrower.hidden()):
                if one.is_within(abstract) and isinstance(result, Sure):
                    inner = sure_answer(custom, one, question)
                    self.assertEqual(inner.answer, result.answer)
                    sure += 1
        self.assertGreater(sure, 20)

    def test_the_number_of_years(self):
        for seed, custom in searched_customs(60):
            question = drawn_questions(seed, custom)[0]
            number = search_years(custom, question)
            if number is not None:
                for part in range(4):
                    abstract = random_abstract(50 * seed + part, custom.kinds, 3)
                    known = [Known(entry.told) for entry in (*abstract.years, *abstract.years, *abstract.years)][:number]
                    if len(known) == number:
                        for entries in (known, [*abstract.years[:1], *known]):
                            result = sure_answer(custom, Abstract(custom.kinds, entries), question)
                            self.assertIs(type(result), Sure, seed)
            for years in (0, 1, 2, 5, *([200] if seed % 6 == 2 else [])):
                pasts = pasts_for(custom, years, question)
                if pasts is not None:
                    result = sure_answer(custom, Abstract(custom.kinds, [Known(year) for year in pasts.years]), question)
                    self.assertIs(type(result), Unsure)


class ErrorsTest(Case):
    def test_in_order(self):
        calls = (answers_of, sure_answer, lambda custom, abstract, question: filling_for(custom, abstract, question, None))
        big = clocked_custom(1, 2, 40)
        small = clocked_custom(1, 2, 19)
        eight = Abstract(big.kinds, [Known([("x", person) for person in "abcdefgh"])])
        for call in calls:
            self.refuses((OtherKinds,), call, big, Abstract(Kinds([("x", 0)]), []), None)
            for word, question in [("question", None), ("question", Odd()), ("seat", Who("z")), ("clock", Reached("p", 1))]:
                self.refuses((BadQuestion, word), call, big, eight, question)
            self.refuses((BadQuestion, "number"), call, small, eight, Reached("k", 20))
            self.refuses((TooMany, 410), call, big, eight, Room())
            self.refuses((TooMany, 4040), call, small, eight, Room())

    def test_results_keep_their_arguments(self):
        sure, unsure = Sure(1, "x"), Unsure(2, None)
        self.assertEqual((sure.answer, sure.layers, unsure.one, unsure.other), (1, "x", 2, None))


if __name__ == "__main__":
    unittest.main()
