import itertools
import unittest

from searchback.abstracts import Abstract, abstract_of
from searchback.clauses import AtLeast, Clause, Is, Put, ToRoom
from searchback.entries import Holding, Known, Noted, Unknown, Without
from searchback.errors import OtherKinds, TooMany
from searchback.histories import History
from searchback.kinds import Kinds
from searchback.layers import MOST_PLACINGS, layers_of, placings
from searchback.stand import Stand
from tests.helpers import (
    Case, all_deeds, clocked_custom, every_stand, plain_custom, random_abstract, searched_customs, told_ends, told_layers,
    told_placed,
)

TAKING = clocked_custom(1, 2, kinds=[("x", 1), ("y", 2)], clauses=[
    Clause("x", [], [Put("p", "first")]), Clause("y", [Is("p", "first")], [Put("q", "second")])])


class PlacingsTest(Case):
    def test_one_by_one(self):
        for rooms, seats, caps in [(1, 1, ()), (2, 2, (1,)), (1, 3, ()), (3, 1, (1, 2)), (1, 3, (1,))]:
            custom = clocked_custom(rooms, seats, *caps)
            for named in (0, 1, 2, 3):
                persons = ("ann", "b", "zed")[:named]
                found = {told_placed(stand, persons).code for stand in every_stand(custom, (*persons, "u", "v", "w"))}
                self.assertEqual(placings(custom, named), len(found))

    def test_as_written(self):
        for k in (0, 1, 4, 8, 9, 100):
            rows = {1: k + 2, 2: (k + 1) * (k + 2) + k + 3,
                    3: (k + 1) * ((k + 1) * (k + 2) + k + 3) + (k + 2) * (k + 3) + k + 4}
            for seats in rows:
                self.assertEqual(placings(clocked_custom(1, seats), k), rows[seats])
                self.assertEqual(placings(clocked_custom(3, seats, 4, 40), k), rows[seats] * 3 * 10 * 82)
        for _, custom in searched_customs(20):
            self.assertEqual(placings(custom, 0), custom.most_stands)


class LayersTest(Case):
    def test_written_layers(self):
        layers = list(layers_of(TAKING, Abstract(TAKING.kinds, [Known([("x", "ann")]), Noted(["x"], [])], whole=True)))
        self.assertEqual([len(layer) for layer in layers], [1, 1, 3])
        self.assertEqual(layers[0], (TAKING.start,))
        self.assertEqual(layers[1], (Stand("r", ["ann", None]),))
        self.assertEqual({stand.seats for stand in layers[2]}, {("ann", None), ("ann", "ann"), ("ann", "a")})
        self.is_tuple_throughout(layers[2])

    def test_unnamed_ones_have_the_first_labels_left(self):
        layers = list(layers_of(TAKING, Abstract(TAKING.kinds, [Known([("x", "a"), ("x", "c")])])))
        self.assertEqual({stand.seats for stand in layers[0]}, {
            (one, other) for one in ("a", "b", "c") for other in (None, "a", "b", "c", "d")
            if (one, other) not in [(one, "d") for one in "ac"]} | {(None, None)})
        self.assertEqual({stand.seats for stand in layers[1]}, {("c", None), ("c", "a"), ("c", "b"), ("c", "c")})

    def test_against_a_plain_search(self):
        met = set()
        for seed, custom in searched_customs(150):
            abstract = random_abstract(seed, custom.kinds)
            found = list(layers_of(custom, abstract))
            told = told_layers(custom, abstract)
            self.assertEqual([{stand.code for stand in layer} for layer in found], told, seed)
            for layer in found:
                self.assertIs(type(layer), tuple)
                self.assertEqual(len({stand.code for stand in layer}), len(layer))
            met.update(type(entry) for entry in abstract.years)
        self.assertEqual(met, {Known, Without, Unknown, Noted, Holding})

    def test_against_all_short_histories(self):
        for seed, custom in searched_customs(24):
            abstract = random_abstract(seed + 7, custom.kinds, 2)
            whole = Abstract(custom.kinds, abstract.years, whole=True)
            last = {stand.code for stand in list(layers_of(custom, whole))[-1]}
            free = {stand.code for stand in list(layers_of(custom, Abstract(custom.kinds, abstract.years)))[-1]}
            deeds = all_deeds(custom.kinds, ("ann", "a", "b"))[:9]
            years = [(), *[(deed,) for deed in deeds], *list(itertools.product(deeds, repeat=2))[::7]]
            for rows in itertools.product(years, repeat=len(abstract)):
                history = History(custom.kinds, rows)
                if whole.fills(history):
                    code = told_placed(told_ends(custom, history)[-1], whole.persons).code
                    self.assertIn(code, last)
                    self.assertIn(code, free)
                    longer = History(custom.kinds, [[deeds[seed % len(deeds)]], *rows])
                    self.assertFalse(whole.fills(longer))
                    self.assertIn(told_placed(told_ends(custom, longer)[-1], whole.persons).code, free)

    def test_no_entries(self):
        custom = plain_custom()
        for whole in (False, True):
            abstract = Abstract(custom.kinds, [], whole=whole)
            self.assertEqual([{stand.code for stand in layer} for layer in layers_of(custom, abstract)],
                             told_layers(custom, abstract))

    def test_two_hundred_entries(self):
        custom = plain_custom()
        history = History(custom.kinds, [[("takes", "ann")], [("sells", "ann", "bob")], [], []] * 50)
        layers = list(layers_of(custom, abstract_of(history)))
        self.assertEqual(len(layers), 201)
        self.assertEqual(layers[-1], (Stand("free", [None], [(3, True)]),))

    def test_eight_named_persons(self):
        kinds = [("u", 2), ("v", 2), ("x", 1)]
        custom = clocked_custom(3, 3, kinds=kinds, clauses=[
            Clause("u", [], [Put("p", "first"), Put("q", "second")]), Clause("v", [Is("p", "first")], [Put("o", "second"), ToRoom("s")]),
            Clause("x", [Is("o", "first")], [ToRoom("t")])])
        told = Known([("x", person) for person in ("zed", "ann", "b", "d", "e", "f", "g", "h")])
        abstract = Abstract(custom.kinds, [told, Unknown(), *[Holding([("x", "ann")]), Without(["v"])] * 20])
        layers = list(layers_of(custom, abstract))
        self.assertEqual(len(layers), 43)
        self.assertEqual(placings(custom, 8), 3093)
        self.assertLessEqual(len(layers[-1]), 3093)
        self.assertGreater(len(layers[-1]), 1000)

    def test_a_generator(self):
        layers = layers_of(plain_custom(), Abstract(plain_custom().kinds, [Unknown()], whole=True))
        self.assertIs(iter(layers), layers)
        self.assertEqual(next(layers), (plain_custom().start,))

    def test_errors_in_order(self):
        def layers(custom, abstract):
            return list(layers_of(custom, abstract))
        big = clocked_custom(1, 2, 40)
        self.refuses((OtherKinds,), layers, big, Abstract(Kinds([("x", 2)]), []))
        self.refuses((TooMany, 410), layers, big, Abstract(big.kinds, []))
        eight = Abstract(big.kinds, [Known([("x", person) for person in "abcdefgh"])])
        self.refuses((TooMany, 410), layers, big, eight)
        custom = clocked_custom(1, 3, 1)
        self.assertEqual((MOST_PLACINGS, placings(custom, 8)), (4000, 4124))
        self.refuses((TooMany, 4124), layers, custom, eight)
        self.assertEqual(len(layers(custom, Abstract(custom.kinds, [Known([("x", person) for person in "abcdefg"])]))), 2)

    def test_just_4000_placings(self):
        full = clocked_custom(1, 2, 39)
        five = Abstract(full.kinds, [Known([("x", person) for person in "abcde"])])
        self.assertEqual((full.most_stands, placings(full, 5)), (400, 4000))
        self.assertEqual(len(list(layers_of(full, five))), 2)
        six = Abstract(full.kinds, [Known([("x", person) for person in "abcdef"])])
        self.refuses((TooMany, 5200), list, layers_of(full, six))
        just = clocked_custom(1, 2, 19)
        self.assertEqual((just.most_stands, placings(just, 8)), (200, 4040))
        eight = Abstract(just.kinds, [Known([("x", person) for person in "abcdefgh"])])
        self.refuses((TooMany, 4040), list, layers_of(just, eight))
        below = clocked_custom(1, 2, 18)
        self.assertEqual(placings(below, 8), 3838)
        self.assertEqual(len(list(layers_of(below, eight))), 2)


if __name__ == "__main__":
    unittest.main()
