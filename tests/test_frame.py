import random
import unittest

from searchback.clauses import Apart, Clause, Is, IsNot, Put, SamePerson, ToRoom
from searchback.customs import Custom
from searchback.frame import Frame, lot_of, numbers_in
from searchback.kinds import Kinds
from tests.helpers import (
    Case, all_deeds, every_stand, random_custom, random_stand, told_after, told_end, told_persons, told_placed,
)


def pairing_custom(seed):
    """A drawn custom of two or three seats whose deeds have two persons who are compared."""
    rnd = random.Random(seed)
    seats = ("p", "q", "o")[:rnd.choice((2, 2, 3))]
    kinds = Kinds([(name, rnd.choice((2, 2, 1))) for name in ("x", "y")])
    clauses = []
    for kind, arity in kinds.rows * 2:
        pool = [None, *([Apart(), Apart(), SamePerson(), IsNot("p", "second")] if arity == 2 else []), Is("q", "nobody"),
                IsNot("q", "first")]
        condition = rnd.choice(pool)
        whats = ("first", "second", "nobody", *seats)[:: 1 if arity == 2 else 2]
        changes = [Put(seat, rnd.choice([what for what in whats if what != seat])) for seat in seats if rnd.random() < 0.8]
        clauses.append(Clause(kind, [] if condition is None else [condition], [*changes, ToRoom("s")][:4]))
    return Custom(kinds, ["r", "s"], seats, [], clauses)


class LotTest(Case):
    def test_numbers(self):
        for numbers in ([], [0], [3], [0, 1, 2], [5, 100, 4000]):
            self.assertEqual(numbers_in(lot_of(numbers)), numbers)
        self.assertEqual(lot_of([2, 0, 2]), 5)


class FrameTest(Case):
    def frames(self, many):
        for seed in range(many):
            custom = pairing_custom(seed) if seed % 3 else random_custom(seed, cap=1)
            if custom.most_stands <= 150:
                yield seed, custom, (("ann", "b", "zed"), ("a",), ())[seed % 5 % 3]

    def test_placed_stands_in_order(self):
        for seed, custom, named in self.frames(40):
            frame = Frame(custom, named)
            stands = [frame.stand_of(number) for number in range(frame.many)]
            everyone = (*named, "u", "v", "w")
            self.assertEqual({stand.code for stand in stands},
                             {told_placed(stand, named).code for stand in every_stand(custom, everyone)})
            for number, stand in enumerate(stands):
                self.assertEqual(frame.number_of(stand.code), number)
            for part in range(10):
                stand = random_stand(10 * seed + part, custom, ("ann", "a", "b", "q"))
                self.assertEqual(frame.stand_of(frame.number_of(stand.code)), told_placed(stand, named))

    def test_ways_against_all_deeds(self):
        for seed, custom, named in self.frames(90):
            frame = Frame(custom, named)
            for number in range(0, frame.many, 1 + frame.many // 25):
                stand = frame.stand_of(number)
                everyone = (*named, *[one for one in told_persons(stand) if one not in named], "u", "v")
                for kind in custom.kinds.names:
                    deeds = [deed for deed in all_deeds(custom.kinds, everyone) if deed[0] == kind]
                    told = {told_placed(told_after(custom, stand, deed), named).code for deed in deeds}
                    found = {one.code for one in frame.stands_in(frame.ways_of((kind,))[number])}
                    self.assertEqual(found, told, (seed, stand.code, kind))
                ways = [frame.ways_of((kind,))[number] for kind in custom.kinds.names]
                whole = 0
                for way in ways:
                    whole |= way
                self.assertEqual(frame.ways_of(custom.kinds.names)[number], whole)
                self.assertEqual(frame.ways_of(())[number], 0)

    def test_ends_and_named_deeds(self):
        for seed, custom, named in self.frames(30):
            frame = Frame(custom, named)
            lot = lot_of(range(frame.many))
            ends = {told_placed(told_end(custom, frame.stand_of(number)), named).code for number in range(frame.many)}
            self.assertEqual({stand.code for stand in frame.stands_in(frame.ended(lot))}, ends)
            for deed in all_deeds(custom.kinds, named):
                for number in range(0, frame.many, 7):
                    told = told_placed(told_after(custom, frame.stand_of(number), deed), named)
                    self.assertEqual(frame.stand_of(frame.done(number, deed)), told)

    def test_paths(self):
        for seed, custom, named in self.frames(40):
            frame = Frame(custom, named)
            kinds = custom.kinds.names
            lot = lot_of([frame.start, (seed * 7) % frame.many])
            reached = {number: 0 for number in numbers_in(lot)}
            waiting = list(reached)
            for number in waiting:
                for to in numbers_in(frame.ways_of(kinds)[number]):
                    if to not in reached:
                        reached[to] = reached[number] + 1
                        waiting.append(to)
            self.assertEqual(numbers_in(frame.reached(lot, kinds)), sorted(reached))
            for goal in sorted(reached)[::5]:
                path = frame.path(lot, kinds, goal)
                self.assertEqual(len(path) - 1, reached[goal])
                self.assertEqual(path[-1], goal)
                self.assertIn(path[0], numbers_in(lot))
                for number, to in zip(path, path[1:]):
                    code = frame.stand_of(number).code
                    deed = frame.deed_to(code, kinds, to)
                    self.assertEqual(told_placed(told_after(custom, frame.stand_of(number), deed), named), frame.stand_of(to))


if __name__ == "__main__":
    unittest.main()
