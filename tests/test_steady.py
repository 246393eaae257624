import random
import unittest

from searchback.abstracts import Abstract
from searchback.clauses import AtLeast, Clause, Is, Put, ToRoom, Zero
from searchback.entries import Holding, Known, Noted, Unknown, Without
from searchback.errors import BadAbstract, BadQuestion, TooMany
from searchback.fillings import answers_of
from searchback.layers import layers_of
from searchback.questions import Filled, Reached, Room, Who
from searchback.stand import Stand
from searchback.steady import Steady, Unsteady, steady_years
from tests.helpers import (
    Case, Odd, clocked_custom, drawn_questions, plain_custom, random_entry, searched_customs, told_ahead,
    told_answer, told_year,
)


def codes_of(layers):
    return [{stand.code for stand in layer} for layer in layers]


def told_is_sure(custom, named, codes, question):
    answers = {told_answer(custom, Stand(*code), question) for code in codes}
    if len(answers) > 1:
        return False
    return not isinstance(question, Who) or answers <= {None, *named}


class SteadyTest(Case):
    def test_written_years(self):
        custom = plain_custom()
        result = steady_years(custom, Known([]), Who("owner"))
        self.assertIs(type(result), Steady)
        self.assertEqual((result.years, result.answer, len(result.layers)), (2, None, 3))
        self.is_tuple_throughout(result.layers)
        result = steady_years(custom, Without(["takes"]), Who("owner"))
        self.assertIs(type(result), Unsteady)
        self.assertEqual(steady_years(custom, Unknown(), Room()).years, 0)
        self.assertEqual(steady_years(custom, Unknown(), Room()).answer, "free")
        held = steady_years(custom, Known([("takes", "ann"), ("sells", "bob", "ann"), ("sells", "ann", "ann")]), Who("owner"))
        self.assertEqual((type(held), held.years, held.answer), (Steady, 3, "ann"))
        self.assertEqual(steady_years(custom, Known([("takes", "ann")] * 3), Reached("idle", 3)).__class__, Unsteady)

    def test_an_answer_that_comes_late(self):
        for cap in (1, 2, 5, 24):
            custom = clocked_custom(2, 1, cap, clauses=[
                Clause("x", [], [Put("p", "first"), Zero("k"), ToRoom("s")]), Clause("year", [AtLeast("k", cap)], [ToRoom("r")])])
            result = steady_years(custom, Known([]), Room())
            self.assertEqual((result.years, result.answer), (cap - 1, "r"))
            self.assertEqual(steady_years(custom, Without(["x"]), Room()).years, cap - 1)
            self.assertIs(type(steady_years(custom, Known([]), Who("p"))), Unsteady)
            self.assertEqual(steady_years(custom, Holding([("x", "ann")]), Who("p")).__class__, Unsteady)
            result = steady_years(custom, Noted(["x"], [("x", "ann")]), Who("p"))
            self.assertEqual((result.years, result.answer, len(result.layers)), (1, "ann", 2))

    def test_an_unnamed_person_is_never_sure(self):
        custom = clocked_custom(1, 1, clauses=[Clause("x", [Is("p", "nobody")], [Put("p", "first")])])
        result = steady_years(custom, Known([("x", "ann")]), Who("p"))
        self.assertIs(type(result), Unsteady)
        self.assertEqual(codes_of(result.layers)[-1], {Stand("r", ["ann"]).code, Stand("r", ["a"]).code})
        self.assertEqual(steady_years(custom, Known([("x", "ann")]), Filled("p")).years, 1)

    def test_against_a_plain_search(self):
        met = set()
        for seed, custom in searched_customs(150):
            rnd = random.Random(seed)
            entry = random_entry(rnd, custom.kinds)
            question = drawn_questions(seed, custom)[0]
            named = Abstract(custom.kinds, [entry]).persons
            layers = [told_ahead(custom, named, False)]
            while not told_is_sure(custom, named, layers[-1], question):
                behind = told_year(custom, named, layers[-1], entry)
                if behind == layers[-1]:
                    break
                layers.append(behind)
            result = steady_years(custom, entry, question)
            self.assertEqual(codes_of(result.layers), layers, seed)
            for one, other in zip(layers, layers[1:]):
                self.assertLess(other, one)
            if told_is_sure(custom, named, layers[-1], question):
                self.assertIs(type(result), Steady)
                self.assertEqual(result.years, len(layers) - 1)
                answer = told_answer(custom, Stand(*min(layers[-1], key=str)), question)
                self.assertEqual(result.answer, answer)
                self.assertIs(type(result.answer), type(answer))
                met.add(result.years)
            else:
                self.assertIs(type(result), Unsteady)
                self.assertEqual(told_year(custom, named, layers[-1], entry), layers[-1])
                met.add(None)
        self.assertLessEqual({None, 0, 1, 2}, met)

    def test_against_abstracts_of_so_many_years(self):
        for seed, custom in searched_customs(60):
            entry = random_entry(random.Random(seed + 11), custom.kinds)
            question = drawn_questions(seed, custom)[0]
            result = steady_years(custom, entry, question)
            for years in range(6):
                abstract = Abstract(custom.kinds, [entry] * years)
                answers = answers_of(custom, abstract, question)
                named = Abstract(custom.kinds, [entry]).persons
                sure = isinstance(result, Steady) and years >= result.years
                if years > 0 or not named:
                    self.assertIs(answers.is_sure, sure, seed)
                    if sure:
                        self.assertEqual(answers.possible, (result.answer,))
                        if years == result.years:
                            self.assertEqual(codes_of(layers_of(custom, abstract)), codes_of(result.layers))

    def test_errors_in_order(self):
        big, small = clocked_custom(1, 2, 40), clocked_custom(1, 2, 19)
        for thing in (None, (), Odd(), Abstract(big.kinds, [])):
            self.refuses((BadAbstract, 0, "entry"), steady_years, big, thing, None)
        self.refuses((BadAbstract, 0, "names"), steady_years, big, Without(["z"]), None)
        self.refuses((BadAbstract, 0, "arity"), steady_years, big, Known([("x",)]), None)
        self.refuses((BadAbstract, 0, "noted"), steady_years, big, Noted([], [("x", "a")]), None)
        nine = Known([("x", person) for person in "abcdefghi"])
        eight = Known([("x", person) for person in "abcdefgh"])
        self.refuses((BadAbstract, 0, "persons"), steady_years, big, nine, None)
        self.refuses((BadQuestion, "question"), steady_years, big, eight, None)
        self.refuses((BadQuestion, "seat"), steady_years, big, eight, Who("z"))
        self.refuses((TooMany, 410), steady_years, big, eight, Room())
        self.refuses((TooMany, 4040), steady_years, small, eight, Room())

    def test_results_keep_their_arguments(self):
        steady, unsteady = Steady(1, None, "x"), Unsteady(3)
        self.assertEqual((steady.years, steady.answer, steady.layers, unsteady.layers), (1, None, "x", 3))


if __name__ == "__main__":
    unittest.main()
