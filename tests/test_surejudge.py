import unittest

from searchback.abstracts import Abstract
from searchback.clauses import Clause, Is, Put
from searchback.entries import Holding, Known, Noted, Unknown, Without
from searchback.errors import BadQuestion, OtherKinds, TooMany
from searchback.fillings import Sure, Unsure, sure_answer
from searchback.histories import History
from searchback.kinds import Kinds
from searchback.questions import Filled, Room, Who
from searchback.stand import Stand
from searchback.surejudge import sure_fault
from tests.helpers import (
    NO_SEQUENCES, Case, EqualToAll, Odd, clocked_custom, drawn_questions, random_abstract, searched_customs, told_ahead,
    told_answer, told_placed, told_year,
)

CUSTOM = clocked_custom(1, 1, kinds=[("x", 1), ("y", 0)], clauses=[
    Clause("x", [Is("p", "nobody")], [Put("p", "first")]), Clause("y", [], [Put("p", "nobody")])])
ABSTRACT = Abstract(CUSTOM.kinds, [Known([("y",)]), Noted(["x", "y"], [("x", "ann")])])
NONE, ANN, ONE = Stand("r", [None]), Stand("r", ["ann"]), Stand("r", ["a"])
LAYERS = ((NONE, ANN, ONE), (NONE,), (ANN,))


def fault(answer="ann", layers=LAYERS, abstract=ABSTRACT, question=Who("p"), custom=CUSTOM):
    return sure_fault(custom, abstract, question, Sure(answer, layers))


def told_sure_fault(custom, abstract, question, result):
    """The word of a Sure, by the second way to walk."""
    named = abstract.persons
    layers = [{told_placed(stand, named).code for stand in layer} for layer in result.layers]
    if custom.start.code not in layers[0]:
        return "ahead"
    if not abstract.whole and not told_year(custom, named, layers[0], Unknown()) <= layers[0]:
        return "ahead"
    for entry, ahead, behind in zip(abstract.years, layers, layers[1:]):
        if not told_year(custom, named, ahead, entry) <= behind:
            return "step"
    for code in layers[-1]:
        answer = told_answer(custom, Stand(*code), question)
        if answer != result.answer or type(answer) is not type(result.answer):
            return "answer"
        if isinstance(question, Who) and answer is not None and answer not in named:
            return "answer"
    return None


class SureTest(Case):
    def test_right_ones(self):
        self.assertIsNone(fault())
        self.assertIsNone(fault(layers=[list(layer) for layer in LAYERS]))
        # One twice, called by other names, and more than can come.
        self.assertIsNone(fault(layers=((NONE, ANN, ONE, ANN, Stand("r", ["zed"])), (NONE, NONE), (ANN, ANN))))
        self.assertIsNone(fault(layers=((ANN, Stand("r", ["q"]), NONE), (NONE,), (ANN,))))
        wide = Abstract(CUSTOM.kinds, [Known([("y",)])])
        self.assertIsNone(fault(None, ((NONE, ONE), (NONE,)), wide))

    def test_layers(self):
        for layers in (*NO_SEQUENCES, LAYERS[:2], (*LAYERS, (ANN,)), (), (LAYERS[0], (NONE,), None), (LAYERS[0], NONE, (ANN,)),
                       (LAYERS[0], (NONE, None), (ANN,)), (LAYERS[0], (NONE,), ("ann",)), (LAYERS[0], (NONE,), {"ann": 1}),
                       (LAYERS[0], (Stand("s", [None]),), (ANN,)), (LAYERS[0], (Stand("r", [None, None]),), (ANN,)),
                       (LAYERS[0], (Stand("r", [None], [(0, True)]),), (ANN,))):
            self.assertEqual(fault(layers=layers), "layers")
        clocked = clocked_custom(1, 1, 2)
        abstract = Abstract(clocked.kinds, [], whole=True)
        self.assertEqual(fault(None, ((Stand("r", [None], [(3, True)]),),), abstract, custom=clocked), "layers")

    def test_ahead(self):
        for layer in ((), (ANN, ONE), (NONE, ANN), (NONE,), (NONE, ONE)):
            self.assertEqual(fault(layers=(layer, (NONE,), (ANN,))), "ahead", layer)
        whole = Abstract(CUSTOM.kinds, ABSTRACT.years, whole=True)
        self.assertIsNone(fault(layers=((NONE,), (NONE,), (ANN,)), abstract=whole))
        self.assertEqual(fault(layers=((ANN, ONE), (NONE,), (ANN,)), abstract=whole), "ahead")
        self.assertIsNone(fault(layers=LAYERS, abstract=whole))

    def test_step(self):
        for layers in ((LAYERS[0], (), (ANN,)), (LAYERS[0], (ANN,), (ANN,)), (LAYERS[0], (NONE,), ()),
                       (LAYERS[0], (NONE,), (NONE, ONE)), (LAYERS[0], (NONE, ANN), (NONE,))):
            self.assertEqual(fault(layers=layers), "step")
        # A stand too many in a middle layer must be led on, too.
        self.assertIsNone(fault(layers=(LAYERS[0], (NONE, ANN), (ANN,))))
        self.assertEqual(fault(layers=(LAYERS[0], (NONE, ONE), (ANN,))), "step")

    def test_answer(self):
        for answer in (None, "a", "zed", True, 1, EqualToAll(), Odd(), ["ann"]):
            self.assertEqual(fault(answer), "answer")
        for stand in (NONE, ONE, Stand("r", ["zed"])):
            self.assertEqual(fault(layers=(*LAYERS[:2], (ANN, stand))), "answer")
        unnamed = Abstract(CUSTOM.kinds, [Known([("y",)]), Holding([("y",)]), Known([])])
        self.assertEqual(fault("a", (LAYERS[0][::2], (NONE,), (NONE, ONE), (NONE, ONE)), unnamed), "answer")
        layers = ((NONE, ANN, ONE), (NONE,), (ANN,))
        self.assertIsNone(fault(True, layers, question=Filled("p")))
        for answer in (1, "ann", False, None, EqualToAll()):
            self.assertEqual(fault(answer, layers, question=Filled("p")), "answer")
        self.assertEqual(fault(0, ((NONE, ANN, ONE), (NONE,)), ABSTRACT.last(2).last(1).hidden(), Filled("p")), "step")
        emptied = Abstract(CUSTOM.kinds, [Known([("y",)])])
        self.assertIsNone(fault(False, ((NONE, ONE), (NONE,)), emptied, Filled("p")))
        self.assertEqual(fault(0, ((NONE, ONE), (NONE,)), emptied, Filled("p")), "answer")
        self.assertIsNone(fault("r", layers, question=Room()))
        self.assertEqual(fault("s", layers, question=Room()), "answer")

    def test_an_unnamed_person_alone(self):
        custom = clocked_custom(1, 1, kinds=[("y", 0)], clauses=[])
        abstract = Abstract(custom.kinds, [], whole=True)
        self.assertEqual(sure_fault(custom, abstract, Who("p"), Sure(None, ((custom.start, ONE),))), "answer")
        self.assertEqual(sure_fault(custom, abstract, Who("p"), Sure("a", ((custom.start, ONE),))), "answer")

    def test_the_first_word(self):
        self.assertEqual(fault("zed", ((), (), ())), "ahead")
        self.assertEqual(fault("zed", (LAYERS[0], (), (ANN,))), "step")
        self.assertEqual(fault("zed", ((), ())), "layers")

    def test_drawn_changes(self):
        words = set()
        for seed, custom in searched_customs(120):
            abstract = random_abstract(seed, custom.kinds)
            question = drawn_questions(seed, custom)[0]
            result = sure_answer(custom, abstract, question)
            if not isinstance(result, Sure):
                continue
            self.assertIsNone(sure_fault(custom, abstract, question, result))
            for place, layer in enumerate(result.layers):
                for at in range(0, len(layer), 1 + len(layer) // 4):
                    for other in ((*layer[:at], *layer[at + 1:]), (*layer, custom.start), (*layer, result.layers[0][at % len(result.layers[0])])):
                        changed = Sure(result.answer, (*result.layers[:place], other, *result.layers[place + 1:]))
                        told = told_sure_fault(custom, abstract, question, changed)
                        self.assertEqual(sure_fault(custom, abstract, question, changed), told, seed)
                        words.add(told)
            for answer in ("zed", None, True, False, 1, 0, "s"):
                changed = Sure(answer, result.layers)
                self.assertEqual(sure_fault(custom, abstract, question, changed), told_sure_fault(custom, abstract, question, changed))
        self.assertEqual(words, {None, "ahead", "step", "answer"})


class UnsureTest(Case):
    def test_drawn_ones(self):
        for seed, custom in searched_customs(90):
            abstract = random_abstract(seed, custom.kinds)
            question = drawn_questions(seed, custom)[0]
            result = sure_answer(custom, abstract, question)
            self.assertIsNone(sure_fault(custom, abstract, question, result), seed)
            if isinstance(result, Unsure):
                one, other = result.one, result.other
                self.assertIsNone(sure_fault(custom, abstract, question, Unsure(other, one)))
                self.assertEqual(sure_fault(custom, abstract, question, Unsure(one, one)), "alike")
                self.assertEqual(sure_fault(custom, abstract, question, Unsure(one, None)), "history")

    def test_words_in_order(self):
        unsure = Abstract(CUSTOM.kinds, [Known([]), Without(["y"])])
        right = History(CUSTOM.kinds, [[], [("x", "ann")]])
        other = History(CUSTOM.kinds, [[], [("x", "bob")]])
        short = History(CUSTOM.kinds, [[("x", "ann")]])
        wrong = History(CUSTOM.kinds, [[], [("y",)]])

        def word(one, two, abstract=unsure):
            return sure_fault(CUSTOM, abstract, Who("p"), Unsure(one, two))
        self.assertIsNone(word(right, other))
        for thing in (None, right.years, History(Kinds([("y", 0), ("x", 1)]), [[], []]), Odd()):
            self.assertEqual(word(thing, short), "history")
            self.assertEqual(word(short, thing), "history")
        for bad in (short, wrong):
            self.assertEqual(word(bad, right), "fills")
            self.assertEqual(word(right, bad), "fills")
            self.assertEqual(word(bad, bad), "fills")
        self.assertEqual(word(right, right), "alike")
        longer = History(CUSTOM.kinds, [[], *right.years])
        self.assertEqual(word(right, longer), "alike")
        self.assertEqual(word(other, longer, Abstract(CUSTOM.kinds, unsure.years, whole=True)), "fills")

    def test_errors_come_first(self):
        big, small = clocked_custom(1, 2, 40), clocked_custom(1, 2, 19)
        eight = Abstract(big.kinds, [Known([("x", person) for person in "abcdefgh"])])
        for result in (Unsure(None, None), Sure(None, None)):
            self.refuses((OtherKinds,), sure_fault, big, Abstract(CUSTOM.kinds, []), None, result)
            self.refuses((BadQuestion, "question"), sure_fault, big, eight, None, result)
            self.refuses((BadQuestion, "seat"), sure_fault, big, eight, Who("z"), result)
            self.refuses((TooMany, 410), sure_fault, big, eight, Room(), result)
            self.refuses((TooMany, 4040), sure_fault, small, eight, Room(), result)


if __name__ == "__main__":
    unittest.main()
