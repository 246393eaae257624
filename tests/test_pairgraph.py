import unittest

from searchback.heights import beginning_nodes
from searchback.pairgraph import PairGraph
from searchback.pairs import beginning_pairs, most_pairs
from searchback.questions import Who
from tests.helpers import (
    Case, lively_custom, random_custom, random_stand, told_after, told_end, told_joint, told_pair_deeds, told_unlike,
)


def pairs(many):
    """Customs of three seats and fewer, with kinds left out and two stands with far names."""
    for seed in range(many):
        custom = lively_custom(seed, seats=3) if seed % 2 else random_custom(seed, cap=2)
        names = ("zed", "c", "ann", "e", "b")
        stands = (random_stand(seed, custom, names), random_stand(seed + 333, custom, names))
        yield seed, custom, custom.kinds.names[:seed % 3 // 2], stands


def told_node(graph, one, other):
    """The least of the codes of the plain pair and of its swapped one, or None if the stands are equal."""
    return None if one == other else min(told_joint(one, other), told_joint(other, one), key=str)


class PairGraphTest(Case):
    def told(self, graph, node):
        if node is None:
            return None
        pair = graph.pair_of(node)
        self.assertTrue(pair.is_plain)
        self.assertEqual((pair.one.code, pair.other.code), graph.codes_of(node))
        return told_node(graph, pair.one, pair.other)

    def test_nodes(self):
        for seed, custom, without, (one, other) in pairs(150):
            graph = PairGraph(custom, without, (Who(custom.seats[0]),))
            node = graph.node_of(one.code, other.code)
            self.assertEqual(node, graph.node_of(other.code, one.code))
            self.assertEqual(self.told(graph, node), told_node(graph, one, other))
            self.assertIsNone(graph.node_of(one.code, one.code))
            if node is not None:
                self.assertIs(graph.is_unlike(node), told_unlike(custom, (one.code, other.code), graph.questions))

    def test_what_deeds_and_ends_lead_to(self):
        for seed, custom, without, (one, other) in pairs(80):
            graph = PairGraph(custom, without, ())
            node = graph.node_of(one.code, other.code)
            if node is None:
                continue
            end = told_node(graph, told_end(custom, one), told_end(custom, other))
            self.assertEqual(self.told(graph, graph.ended(node)), end)
            told = set()
            for deed, _ in told_pair_deeds(custom, (one.code, other.code), without):
                told.add(told_node(graph, told_after(custom, one, deed), told_after(custom, other, deed)))
            found = [self.told(graph, to) for to in graph.led(node)]
            self.assertEqual(len(set(found)), len(found))
            self.assertEqual(set(found), told - {None, told_node(graph, one, other)}, seed)

    def test_beginning_nodes(self):
        for seed in range(60):
            custom = lively_custom(seed, seats=3, cap=1)
            if most_pairs(custom, custom) > 20000:
                continue
            graph = PairGraph(custom, (), ())
            told = {}
            for pair in beginning_pairs(custom):
                if not pair.is_equal:
                    node = graph.node_of(pair.one.code, pair.other.code)
                    told[node] = told.get(node, 0) + 1
            self.assertEqual(beginning_nodes(graph), told, seed)

    def test_deeds_with_the_names_of_the_stands(self):
        for seed, custom, without, (one, other) in pairs(80):
            graph = PairGraph(custom, without, ())
            node = graph.node_of(one.code, other.code)
            for to in graph.led(node) if node is not None else ():
                deed = graph.deed_to(one.code, other.code, to)
                self.assertNotIn(deed[0], without)
                behind = [told_after(custom, stand, deed) for stand in (one, other)]
                self.assertEqual(graph.node_of(behind[0].code, behind[1].code), to)


if __name__ == "__main__":
    unittest.main()
