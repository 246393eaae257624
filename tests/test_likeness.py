import itertools
import unittest

from searchback.errors import BadIndex, BadLikeness, BadStand, NoStand, TooMany
from searchback.likeness import (
    Likeness, joined_stands, likeness_at, likeness_count, likeness_index, likeness_of, likenesses, together,
)
from searchback.stand import Stand
from searchback.stands import coming_stands
from tests.helpers import (
    NO_SEQUENCES, NO_WHOLES, Case, Odd, clocked_custom, plain_custom, small_customs, told_ends, told_persons, told_plain,
)


def told_links(first, second):
    """The links of all likenesses, in order, by going through all lots of pairs."""
    pairs = [(one, other) for one in range(first) for other in range(second)]
    rows = []
    for many in range(min(first, second) + 1):
        for row in itertools.combinations(pairs, many):
            if len({one for one, _ in row}) == many == len({other for _, other in row}):
                rows.append(row)
    return rows


class LikenessTest(Case):
    def test_attributes(self):
        made = Likeness(3, 2, [[2, 0], (0, 1)])
        self.assertEqual((made.first, made.second, made.links), (3, 2, ((0, 1), (2, 0))))
        self.is_tuple_throughout(made.links)
        self.assertEqual(len(made), 2)
        self.assertEqual(list(made), [(0, 1), (2, 0)])
        self.assertEqual([made.partner(number) for number in range(3)], [1, None, 0])
        self.assertEqual(Likeness(0, 0, ()).links, ())
        self.assertEqual(Likeness(40, 40, [(39, 39)]).partner(39), 39)

    def test_full(self):
        self.assertIs(Likeness(2, 2, [(0, 1), (1, 0)]).is_full, True)
        self.assertIs(Likeness(0, 0, []).is_full, True)
        for first, second, links in [(2, 2, [(0, 1)]), (1, 2, [(0, 1)]), (2, 1, [(0, 0)]), (0, 1, []), (1, 0, [])]:
            self.assertIs(Likeness(first, second, links).is_full, False)

    def test_equal_by_all_three(self):
        self.same_only(lambda: Likeness(2, 3, [(1, 0), (0, 2)]), [
            Likeness(3, 3, [(1, 0), (0, 2)]), Likeness(2, 4, [(1, 0), (0, 2)]), Likeness(2, 3, [(1, 0)]),
            Likeness(2, 3, [(1, 2), (0, 0)]), ((0, 2), (1, 0))])
        self.assertEqual(Likeness(2, 3, [(1, 0), (0, 2)]), Likeness(2, 3, ((0, 2), (1, 0))))

    def test_refused_in_order(self):
        for thing in (*NO_WHOLES, -1, 41):
            self.refuses((BadLikeness, "first"), Likeness, thing, None, None)
            self.refuses((BadLikeness, "second"), Likeness, 0, thing, None)
        for thing in NO_SEQUENCES:
            self.refuses((BadLikeness, "links"), Likeness, 40, 40, thing)
        for link in (None, 3, "ab", (), (0,), (0, 0, 0), (-1, 0), (0, -1), (2, 0), (0, 3), (True, 0), (0, True),
                     (0.0, 0), (None, 0), {0, 1}, Odd()):
            self.refuses((BadLikeness, "link"), Likeness, 2, 3, [(0, 0), link, (0, 0)])
        for links in ([(0, 0), (0, 1)], [(0, 0), (1, 0)], [(0, 0), (0, 0), None]):
            self.refuses((BadLikeness, "double"), Likeness, 2, 3, links)

    def test_refused_partners(self):
        made = Likeness(2, 3, [(1, 2)])
        for number in (*NO_WHOLES, -1, 2):
            self.refuses((BadIndex, number), made.partner, number)
        self.refuses((BadIndex, 0), Likeness(0, 3, []).partner, 0)

    def test_keeps_nothing(self):
        made = self.keeps_nothing(lambda links: Likeness(2, 3, links), [[1, 0], [0, 2]])
        self.assertEqual(made.links, ((0, 2), (1, 0)))

    def test_flipped(self):
        self.assertEqual(Likeness(2, 3, [(0, 2), (1, 0)]).flipped(), Likeness(3, 2, [(0, 1), (2, 0)]))
        for first, second in itertools.product(range(4), repeat=2):
            for one in likenesses(first, second):
                self.assertEqual(one.flipped().flipped(), one)

    def test_then(self):
        for sizes in itertools.product(range(4), repeat=3):
            if sum(sizes) > 7:
                continue
            for one in likenesses(sizes[0], sizes[1]):
                for other in likenesses(sizes[1], sizes[2]):
                    links = sorted((i, k) for i, j in one.links for h, k in other.links if j == h)
                    self.assertEqual(one.then(other), Likeness(sizes[0], sizes[2], links))

    def test_then_of_other_sizes(self):
        for other in (Likeness(2, 3, []), Likeness(4, 3, []), None, ((0, 0),), Odd()):
            self.refuses((BadLikeness, "sizes"), Likeness(2, 3, []).then, other)


class AllTest(Case):
    def test_the_example(self):
        self.assertEqual([one.links for one in likenesses(1, 2)], [(), ((0, 0),), ((0, 1),)])
        self.assertEqual(likeness_count(3, 3), 34)
        self.assertEqual(likeness_count(3, 3, linked=2), 18)

    def test_against_going_through_all(self):
        for first, second in itertools.product(range(5), repeat=2):
            rows = told_links(first, second)
            self.assertEqual([one.links for one in likenesses(first, second)], rows)
            self.assertEqual(likeness_count(first, second), len(rows))
            self.assertEqual(likeness_count(first, second, linked=None), len(rows))
            for linked in range(6):
                many = len([row for row in rows if len(row) == linked])
                self.assertEqual(likeness_count(first, second, linked=linked), many)
            for index, row in enumerate(rows):
                self.assertEqual(likeness_at(first, second, index), Likeness(first, second, row))
                self.assertEqual(likeness_index(Likeness(first, second, row)), index)

    def test_five_against_three(self):
        rows = told_links(5, 3)
        self.assertEqual([one.links for one in likenesses(5, 3)], rows)
        self.assertEqual([likeness_index(one) for one in likenesses(3, 5)], list(range(len(told_links(3, 5)))))

    def test_none_one_and_forty_persons(self):
        self.assertEqual([one.links for one in likenesses(0, 40)], [()])
        self.assertEqual(likeness_count(0, 0), 1)
        self.assertEqual(likeness_count(1, 40), 41)
        self.assertEqual(likeness_count(40, 40, linked=1), 1600)
        self.assertEqual(likeness_count(40, 2, linked=40), 0)
        whole = 1
        for number in range(1, 41):
            whole *= number
        self.assertEqual(likeness_count(40, 40, linked=40), whole)
        self.assertEqual(likeness_count(40, 40), sum(likeness_count(40, 40, linked=many) for many in range(41)))

    def test_too_many_to_go_through(self):
        rows = likenesses(40, 40)
        self.assertIs(iter(rows), rows)
        self.assertEqual([next(rows).links for _ in range(43)][39:], [((0, 38),), ((0, 39),), ((1, 0),), ((1, 1),)])
        count = likeness_count(40, 40)
        for index in (0, 1, 1600, 1601, 10 ** 20, count // 3, count - 2, count - 1):
            self.assertEqual(likeness_index(likeness_at(40, 40, index)), index)
        last = likeness_at(40, 40, count - 1)
        self.assertEqual(last.links, tuple((number, 39 - number) for number in range(40)))
        self.assertEqual(likeness_at(40, 40, 1601).links, ((0, 0), (1, 1)))

    def test_refused(self):
        for thing in (*NO_WHOLES, -1, 41):
            for call in (lambda one, other: list(likenesses(one, other)), likeness_count,
                         lambda one, other: likeness_at(one, other, None),
                         lambda one, other: likeness_count(one, other, linked=41)):
                self.refuses((BadLikeness, "first"), call, thing, None)
                self.refuses((BadLikeness, "second"), call, 40, thing)
        for thing in [one for one in (*NO_WHOLES, -1, 41) if one is not None]:
            self.refuses((BadLikeness, "linked"), likeness_count, 2, 2, linked=thing)
        self.assertEqual(likeness_count(2, 2, linked=40), 0)
        for thing in (*NO_WHOLES, -1, 7, 10 ** 70):
            self.refuses((BadIndex, thing), likeness_at, 2, 2, thing)
        self.assertEqual(likeness_at(2, 2, 6).links, ((0, 1), (1, 0)))
        self.refuses((BadIndex, 1), likeness_at, 0, 40, 1)


class StandsTest(Case):
    def test_likeness_of(self):
        one = Stand("r", ["ann", None, "bob"])
        self.assertEqual(likeness_of(one, Stand("s", ["bob", "cy", "ann"])), Likeness(2, 3, [(0, 2), (1, 0)]))
        self.assertEqual(likeness_of(one, Stand("s", [None])), Likeness(2, 0, []))
        self.assertEqual(likeness_of(Stand("s", ["bob", "bob"]), one), Likeness(1, 2, [(0, 1)]))
        self.assertTrue(likeness_of(one, one).is_full)

    def test_joined_stands(self):
        one, other = Stand("r", ["zed", "yi", None]), Stand("s", ["a", "b", "c"], [(1, True)])
        self.assertEqual(joined_stands(one, other, Likeness(2, 3, [(1, 1)])), (
            Stand("r", ["a", "b", None]), Stand("s", ["c", "b", "d"], [(1, True)])))
        three = Stand("r", ["p", "q", "o"])
        self.assertEqual(joined_stands(three, three, Likeness(3, 3, []))[1], Stand("r", ["d", "e", "f"]))
        self.assertEqual(joined_stands(Stand("r", [None]), three, Likeness(0, 3, []))[1], Stand("r", ["a", "b", "c"]))

    def test_every_likeness_of_joined_stands(self):
        rows = [Stand("r", seats) for seats in itertools.product((None, "x", "b", "a"), repeat=3)]
        for one in rows[::3]:
            for other in rows[::2]:
                for likeness in likenesses(len(told_persons(one)), len(told_persons(other))):
                    first, second = joined_stands(one, other, likeness)
                    self.assertEqual(first, told_plain(one))
                    self.assertEqual(told_plain(second), told_plain(other))
                    self.assertEqual(likeness_of(first, second), likeness)
                    self.assertEqual(told_persons(first, second), tuple("abcdef"[:len(told_persons(first, second))]))

    def test_refused_joined_stands(self):
        one, other = Stand("r", ["a", "b"]), Stand("r", ["a", None])
        for thing in (None, 0, ((0, 0),), Odd()):
            self.refuses((BadLikeness, "likeness"), joined_stands, one, other, thing)
        for sizes in ((1, 1), (2, 2), (1, 2), (3, 1)):
            self.refuses((BadLikeness, "sizes"), joined_stands, one, other, Likeness(*sizes, []))


class TogetherTest(Case):
    def test_all_ends_with_every_likeness(self):
        for seed, custom in small_customs(40, most=60):
            ends = coming_stands(custom).ends
            for one in ends[::3]:
                for other in ends[1::3]:
                    for likeness in likenesses(len(one.persons), len(other.persons)):
                        first, second = together(custom, one, other, likeness)
                        stands = (told_ends(custom, first)[-1], told_ends(custom, second)[-1])
                        self.assertEqual(stands, joined_stands(one, other, likeness))

    def test_with_any_names(self):
        custom = plain_custom()
        one, other = Stand("free", ["zed"], [(1, True)]), Stand("free", ["zed"], [(2, True)])
        first, second = together(custom, one, other, Likeness(1, 1, []))
        self.assertEqual(told_ends(custom, first)[-1], Stand("free", ["a"], [(1, True)]))
        self.assertEqual(told_ends(custom, second)[-1], Stand("free", ["b"], [(2, True)]))

    def test_refused_in_order(self):
        custom = plain_custom()
        right, never = Stand("free", ["a"], [(1, True)]), Stand("free", ["a"], [(0, True)])
        for word, bad in [("stand", None), ("room", Stand("r", ["a"])), ("seats", Stand("free", ["a", "b"])),
                          ("clocks", Stand("free", ["a"])), ("number", Stand("free", ["a"], [(4, True)]))]:
            self.refuses((BadStand, word), together, custom, bad, None, None)
            self.refuses((BadStand, word), together, custom, never, bad, None)
        big = clocked_custom(1, 1, 9, 9)
        stand = Stand("r", ["a"], [(9, False), (9, False)])
        self.refuses((TooMany, 800), together, big, stand, stand, None)
        self.refuses((BadStand, "stand"), together, big, stand, 3, None)
        self.refuses((NoStand,), together, custom, right, never, None)
        self.refuses((NoStand,), together, custom, never, right, None)
        self.refuses((BadLikeness, "likeness"), together, custom, right, right, None)
        self.refuses((BadLikeness, "sizes"), together, custom, right, right, Likeness(1, 0, []))


if __name__ == "__main__":
    unittest.main()
