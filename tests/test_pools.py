import inspect
import itertools
import random
import unittest

from searchback.amendments import Amendment, Drop, Limit, PutIn, Swap
from searchback.choices import is_part, lots_of
from searchback.clauses import AtLeast, Below, Clause, InRoom, Put, Zero
from searchback.errors import BadLot, BadPool, Clash
from searchback.pools import Pool
from tests.helpers import NO_SEQUENCES, NO_WHOLES, Case, Odd, clocked_custom, lively_custom, random_clause, wide_custom

LOTS = ((), (0,), (1,), (2,), (3,), (0, 1), (0, 2), (0, 3), (1, 2), (1, 3), (2, 3), (0, 1, 2), (0, 1, 3), (0, 2, 3), (1, 2, 3),
        (0, 1, 2, 3))


def drawn_pool(seed, custom):
    """A pool of drawn amendments that fit."""
    rnd = random.Random(seed)
    found = []
    while len(found) < rnd.choice((1, 2, 3, 4)):
        index = rnd.randrange(max(1, len(custom)))
        kind, arity = rnd.choice((*custom.kinds.rows, ("year", 0)))
        clause = random_clause(rnd, kind, arity, custom.rooms, custom.seats, custom.clocks)
        one = rnd.choice((Drop(index), PutIn(rnd.randint(0, len(custom)), clause), Swap(index),
                          Limit(index, rnd.randrange(3), rnd.randint(1, 4)), Limit(index, 0, rnd.randint(1, 2))))
        if one not in found and one.fault(custom) is None:
            found.append(one)
    return Pool(custom, found)


def told_clash(pool, lot):
    for first, second in itertools.combinations(lot, 2):
        if set(pool.amendments[first].touched) & set(pool.amendments[second].touched):
            return (first, second)
    return None


def told_clauses(pool, lot):
    """The clauses at the places 0 to n: first what is put in, then what stands there."""
    chosen = [pool.amendments[index] for index in lot]
    standing = dict(enumerate(pool.custom.clauses))
    for one in chosen:
        if isinstance(one, Limit):
            clause = standing[one.clause]
            old = clause.conditions[one.condition]
            new = type(old)(old.clock, one.limit)
            conditions = list(clause.conditions)
            conditions[one.condition] = new
            if [condition == new for condition in conditions].count(True) == 2:
                del conditions[one.condition]
            standing[one.clause] = Clause(clause.kind, conditions, clause.changes)
        if isinstance(one, Swap):
            standing[one.clause], standing[one.clause + 1] = standing[one.clause + 1], standing[one.clause]
    for one in chosen:
        if isinstance(one, Drop):
            del standing[one.clause]
    found = []
    for place in range(len(pool.custom) + 1):
        found.extend(one.clause for one in chosen if isinstance(one, PutIn) and one.place == place)
        found.extend(standing[at] for at in (place,) if at in standing)
    return tuple(found)


class ChoicesTest(Case):
    def test_lots(self):
        self.assertEqual(tuple(lots_of([0, 1, 2, 3])), LOTS)
        self.assertEqual(lots_of([]), [()])
        self.assertEqual(lots_of([2, 5]), [(), (2,), (5,), (2, 5)])
        self.assertEqual([is_part((), ()), is_part((1,), (0, 1)), is_part((1, 2), (0, 1))], [True, True, False])


class PoolTest(Case):
    def test_attributes(self):
        custom = wide_custom()
        amendments = [Drop(0), Swap(1), PutIn(3, Clause("open")), Limit(6, 0, 2)]
        for many in (1, 2, 3, 4):
            pool = Pool(custom, amendments[:many])
            self.assertEqual((pool.custom, pool.amendments, len(pool)), (custom, tuple(amendments[:many]), many))
            self.assertEqual(list(pool), amendments[:many])
        amendments.clear()
        self.assertEqual(len(pool), 4)

    def test_equality(self):
        custom, other = wide_custom(), wide_custom().with_clauses(wide_custom().clauses[1:])
        self.same_only(lambda: Pool(custom, [Drop(0), Drop(1)]), [
            Pool(other, [Drop(0), Drop(1)]), Pool(custom, [Drop(1), Drop(0)]), Pool(custom, [Drop(0)]),
            Pool(custom, [Drop(0), Swap(1)])])
        self.assertEqual(Pool(custom, (Drop(0),)), Pool(custom, [Drop(0)]))

    def test_refused_pools(self):
        custom = wide_custom()
        for bad in (None, Odd(), custom.clauses, "custom"):
            self.refuses((BadPool, 0, "custom"), Pool, bad, None)
        four = [Drop(0), Drop(1), Drop(2), Drop(3)]
        for bad in (*NO_SEQUENCES, [], (), [*four, Drop(4)], [None] * 5):
            self.refuses((BadPool, 0, "amendments"), Pool, custom, bad)
        for bad in (None, Odd(), 3, Clause("open"), "Drop", (0,), Drop):
            self.refuses((BadPool, 2, "amendment"), Pool, custom, [Drop(0), Drop(1), bad, Drop(0)])
            self.refuses((BadPool, 0, "amendment"), Pool, custom, [bad])
        self.refuses((BadPool, 1, "double"), Pool, custom, [Drop(0), Drop(0), None])
        self.refuses((BadPool, 3, "double"), Pool, custom, [Drop(0), Swap(1), Swap(0), Swap(1)])
        for word, bad in (("clause", Drop(8)), ("clause", Swap(7)), ("place", PutIn(9, Clause("open"))),
                          ("clause", PutIn(8, Clause("far"))), ("condition", Limit(0, 0, 1)), ("limit", Limit(6, 0, 4)),
                          ("clause", Limit(8, 0, 4))):
            self.refuses((BadPool, 0, word), Pool, custom, [bad])
            self.refuses((BadPool, 1, word), Pool, custom, [Drop(0), bad, None])
            self.refuses((BadPool, 0, word), Pool, custom, [bad, bad])

    def test_lots(self):
        custom = wide_custom()
        pool = Pool(custom, [Drop(0), Drop(1), Drop(2), Drop(3)])
        self.assertTrue(inspect.isgeneratorfunction(Pool.lots))
        self.assertEqual(tuple(pool.lots()), LOTS)
        self.assertEqual(next(pool.lots()), ())
        self.assertEqual(list(Pool(custom, [Swap(0)]).lots()), [(), (0,)])
        self.assertEqual(list(Pool(custom, [Swap(0), Drop(5)]).lots()), [(), (0,), (1,), (0, 1)])

    def test_refused_lots(self):
        pool = Pool(wide_custom(), [Drop(0), Drop(1), Swap(2)])
        bad = [*NO_SEQUENCES, (3,), (-1,), (0, 0), (1, 0), (0, 2, 1), [0, 1, 2, 3], *[(thing,) for thing in NO_WHOLES],
               *[(0, thing) for thing in NO_WHOLES]]
        for call in (pool.clash, pool.amended):
            for lot in bad:
                self.refuses((BadLot, "lot"), call, lot)
            call([0, 1, 2])
            call(())


class AmendedTest(Case):
    def setUp(self):
        self.rows = [Clause("x", [InRoom("r"), AtLeast("k", number)]) for number in range(1, 7)]
        self.custom = clocked_custom(1, 1, 9, clauses=self.rows)

    def made(self, *amendments):
        pool = Pool(self.custom, amendments)
        return list(pool.amended(tuple(range(len(pool)))).clauses)

    def test_single_amendments(self):
        rows, new = self.rows, Clause("year")
        self.assertEqual(self.made(Drop(2)), [*rows[:2], *rows[3:]])
        self.assertEqual(self.made(Swap(4)), [*rows[:4], rows[5], rows[4]])
        for place in range(7):
            self.assertEqual(self.made(PutIn(place, new)), [*rows[:place], new, *rows[place:]])
        self.assertEqual(self.made(Limit(3, 1, 9)), [*rows[:3], Clause("x", [InRoom("r"), AtLeast("k", 9)]), *rows[4:]])
        self.assertEqual(self.made(Limit(3, 1, 4)), rows)

    def test_several_amendments(self):
        rows, new, more = self.rows, Clause("year"), Clause("year", [], [Put("p", "nobody")])
        self.assertEqual(self.made(Drop(0), Drop(5), Drop(2)), [rows[1], rows[3], rows[4]])
        self.assertEqual(self.made(PutIn(2, new), PutIn(2, more)), [*rows[:2], new, more, *rows[2:]])
        self.assertEqual(self.made(PutIn(2, more), PutIn(2, new)), [*rows[:2], more, new, *rows[2:]])
        # All speak of the places of the pool's custom.
        self.assertEqual(self.made(Drop(2), PutIn(2, new)), [*rows[:2], new, *rows[3:]])
        self.assertEqual(self.made(Drop(2), PutIn(3, new)), [*rows[:2], new, *rows[3:]])
        self.assertEqual(self.made(PutIn(3, new), Swap(2)), [*rows[:2], rows[3], new, rows[2], *rows[4:]])
        self.assertEqual(self.made(Swap(0), Drop(2), Limit(3, 1, 8), PutIn(6, new)), [
            rows[1], rows[0], Clause("x", [InRoom("r"), AtLeast("k", 8)]), *rows[4:], new])
        self.assertEqual(self.made(Swap(0), Swap(2), Swap(4)), [rows[1], rows[0], rows[3], rows[2], rows[5], rows[4]])

    def test_limits_that_make_two_conditions_equal(self):
        first = [AtLeast("k", 3), InRoom("r"), AtLeast("k", 5), Below("k", 7)]
        self.custom = clocked_custom(1, 1, 9, clauses=[Clause("x", first, [Zero("k")])])
        for limit, index, conditions in ((5, 0, first[1:]), (3, 2, [first[0], first[1], first[3]]),
                                         (3, 3, [*first[:3], Below("k", 3)]), (7, 0, [AtLeast("k", 7), *first[1:]])):
            self.assertEqual(self.made(Limit(0, index, limit)), [Clause("x", conditions, [Zero("k")])])

    def test_no_clause_is_left(self):
        pool = Pool(self.custom.with_clauses(self.rows[:2]), [Drop(0), Drop(1)])
        self.assertEqual(len(pool.amended((0, 1))), 0)
        self.assertEqual(pool.amended([]), pool.custom)

    def test_clashes(self):
        pool = Pool(self.custom, [Swap(2), Drop(3), PutIn(3, Clause("year")), Limit(2, 1, 9)])
        self.assertEqual([pool.clash(lot) for lot in LOTS], [
            None, None, None, None, None, (0, 1), None, (0, 3), None, None, None, (0, 1), (0, 1), (0, 3), None, (0, 1)])
        for lot in LOTS:
            if pool.clash(lot) is not None:
                self.refuses((Clash, *pool.clash(lot)), pool.amended, lot)
        pool = Pool(self.custom, [Drop(0), Drop(2), Swap(1), Swap(0)])
        self.assertEqual(pool.clash((1, 2, 3)), (1, 2))
        self.assertEqual(pool.clash((0, 1, 2, 3)), (0, 3))
        self.assertEqual(pool.clash([2, 3]), (2, 3))
        for one, other in ((Swap(1), Drop(1)), (Swap(1), Drop(2)), (Limit(4, 1, 9), Drop(4)), (Limit(4, 1, 9), Limit(4, 1, 8)),
                           (Swap(0), Swap(1)), (Swap(4), Limit(5, 1, 9))):
            self.assertEqual(Pool(self.custom, [one, other]).clash((0, 1)), (0, 1))
            self.assertEqual(Pool(self.custom, [other, one]).clash((0, 1)), (0, 1))

    def test_twelve_clauses_and_thirteen(self):
        full = self.custom.with_clauses([Clause("x")] * 11)
        pool = Pool(full, [PutIn(0, Clause("year")), PutIn(11, Clause("year")), Drop(5), Swap(4)])
        self.assertEqual(len(pool.amended((0,))), 12)
        self.assertEqual(len(pool.amended((0, 1, 2))), 12)
        self.refuses((BadLot, "many"), pool.amended, (0, 1))
        self.refuses((BadLot, "many"), pool.amended, [0, 1, 3])
        self.refuses((Clash, 2, 3), pool.amended, (0, 1, 2, 3))
        pool = Pool(full, [PutIn(at, Clause("year", [InRoom("r")] * (at % 2))) for at in range(4)])
        self.refuses((BadLot, "many"), pool.amended, (0, 1, 2, 3))
        pool = Pool(self.custom.with_clauses([Clause("x")] * 12), [PutIn(0, Clause("year")), Drop(0)])
        self.refuses((BadLot, "many"), pool.amended, (0,))
        self.assertEqual(len(pool.amended((0, 1))), 12)
        self.assertEqual(pool.amended((0, 1)).clauses[0], Clause("year"))

    def test_against_the_places(self):
        clashes = 0
        for seed in range(150):
            custom = lively_custom(seed)
            pool = drawn_pool(seed, custom)
            before = (pool.custom, pool.amendments, custom.clauses)
            self.assertEqual(pool.amended(()), custom)
            for lot in pool.lots():
                pair = told_clash(pool, lot)
                self.assertEqual(pool.clash(lot), pair)
                if pair is not None:
                    self.refuses((Clash, *pair), pool.amended, lot)
                    clashes += 1
                    continue
                made = pool.amended(lot)
                self.assertEqual(made, custom.with_clauses(told_clauses(pool, lot)))
            self.assertEqual((pool.custom, pool.amendments, custom.clauses), before)
            self.assertTrue(all(isinstance(one, Amendment) for one in pool))
        self.assertGreater(clashes, 20)


if __name__ == "__main__":
    unittest.main()
