"""What several tests use: refusals with all their words, and a plain second way to walk."""

import copy
import random
import unittest

from searchback.clauses import (
    Apart, AtLeast, Below, Clause, Halt, InRoom, Is, IsNot, NotInRoom, Put, Run, SamePerson, ToRoom, Zero,
)
from searchback.customs import Custom
from searchback.histories import History
from searchback.kinds import Kinds
from searchback.stand import Stand


class Odd:
    """A thing of no kind that the document knows."""


class EqualToAll:
    """A thing that says of itself that it is equal to everything."""

    def __eq__(self, other):
        return True

    def __hash__(self):
        return hash("a")


NO_LABELS = (
    None, 0, 1, True, 1.5, "", "A", "aB", "abcdefg", "a1", "a b", "a\n", " a", "a-b", "\u00e9", "\u00df",
    "\u0430", b"a", ["a"], ("a",), {"a": 1}, {"a"}, Odd(),
)
NO_SEQUENCES = (None, 0, True, "", "ab", b"ab", {}, {"a": 1}, {"a"}, frozenset(), range(2), iter(()), Odd())
NO_WHOLES = (None, True, False, 1.0, "1", "", b"1", [1], (1,), {1: 1}, Odd())
SEATLESS = ("first", "second", "nobody")


class Case(unittest.TestCase):
    """A test case that asks for an error's class and for all of its attributes."""

    maxDiff = None

    def refuses(self, error, call, *args, **named):
        """Check that the call raises this very error, made with these things."""
        kind, wanted = error[0], tuple(error[1:])
        with self.assertRaises(kind) as caught:
            call(*args, **named)
        self.assertIs(type(caught.exception), kind)
        found = tuple(vars(caught.exception).values())
        self.assertEqual(len(found), len(wanted), (found, wanted))
        for one, other in zip(found, wanted):
            self.assertIs(type(one), type(other), (found, wanted))
            self.assertTrue(one is other or one == other, (found, wanted))

    def same_only(self, made, unlike):
        """Check that made() is equal to itself made again, and to none of the unlike things."""
        self.assertTrue(made() == made())
        self.assertFalse(made() != made())
        for other in (*unlike, None, 0, "a", (), [], Odd()):
            self.assertFalse(made() == other, other)
            self.assertFalse(other == made(), other)
            self.assertTrue(made() != other, other)

    def keeps_nothing(self, call, *args):
        """Check that a call changes nothing it is given, and that later changes have no effect."""
        before = copy.deepcopy(args)
        made = call(*args)
        self.assertEqual(args, before)
        for arg in args:
            spoil(arg)
        self.assertEqual(made, call(*before))
        return made

    def is_tuple_throughout(self, thing):
        """Check that no list is within the thing."""
        self.assertIs(type(thing), tuple)
        for item in thing:
            if isinstance(item, (list, tuple)):
                self.is_tuple_throughout(item)


def spoil(thing):
    """Empty all lists and dicts within the thing."""
    if isinstance(thing, (list, tuple)):
        for item in thing:
            spoil(item)
    if isinstance(thing, list):
        thing.clear()
    if isinstance(thing, dict):
        thing.clear()


# A custom of three rooms, three seats and two clocks, in which nearly everything occurs.
def wide_custom():
    kinds = Kinds([("open", 0), ("takes", 1), ("sells", 2)])
    return Custom(kinds, ["calm", "suit", "shut"], ["owner", "heir", "agent"], [("idle", 3, True), ("age", 5, False)], [
        Clause("takes", [Is("owner", "nobody"), NotInRoom("shut")], [Put("owner", "first"), Zero("idle"), Run("age")]),
        Clause("sells", [Is("owner", "first"), Apart()], [Put("owner", "second"), Put("agent", "owner")]),
        Clause("sells", [SamePerson()], [Put("heir", "first")]),
        Clause("open", [InRoom("calm")], [ToRoom("suit"), Halt("age")]),
        Clause("open", [InRoom("suit")], [ToRoom("calm"), Put("owner", "heir"), Put("heir", "owner")]),
        Clause("open", [], []),
        Clause("year", [AtLeast("idle", 3), Below("age", 4)], [Put("owner", "nobody"), Zero("idle")]),
        Clause("year", [IsNot("agent", "owner"), AtLeast("age", 5)], [ToRoom("shut"), Zero("age"), Halt("idle")]),
    ])


def plain_custom():
    """The custom of the example of part 3."""
    kinds = Kinds([("sells", 2), ("takes", 1)])
    return Custom(kinds, ["free"], ["owner"], [("idle", 3, True)], [
        Clause("sells", [Is("owner", "first")], [Put("owner", "second"), Zero("idle")]),
        Clause("takes", [Is("owner", "nobody")], [Put("owner", "first"), Zero("idle")]),
        Clause("year", [AtLeast("idle", 3)], [Put("owner", "nobody")])])


# A second way to walk, written down as the document says it, without the package's own steps.
def told_person(custom, stand, deed, what):
    if what == "nobody":
        return None
    if what in ("first", "second"):
        return deed[1 if what == "first" else 2]
    return stand.seats[custom.seats.index(what)]


def told_number(custom, stand, clock):
    return stand.clocks[[row[0] for row in custom.clocks].index(clock)][0]


def told_holds(custom, stand, deed, condition):
    kind = type(condition)
    if kind in (InRoom, NotInRoom):
        return (stand.room == condition.room) == (kind is InRoom)
    if kind in (Is, IsNot):
        seat = told_person(custom, stand, deed, condition.seat)
        return (seat == told_person(custom, stand, deed, condition.what)) == (kind is Is)
    if kind in (SamePerson, Apart):
        return (deed[1] == deed[2]) == (kind is SamePerson)
    number = told_number(custom, stand, condition.clock)
    return number >= condition.number if kind is AtLeast else number < condition.number


def told_acting(custom, stand, deed):
    """The index of the clause that acts; the stand is a ticked one if the deed is None."""
    kind = "year" if deed is None else deed[0]
    for index, clause in enumerate(custom.clauses):
        if clause.kind == kind and all(told_holds(custom, stand, deed, held) for held in clause.conditions):
            return index
    return None


def told_after(custom, stand, deed):
    index = told_acting(custom, stand, deed)
    room, seats, clocks = stand.room, list(stand.seats), [list(clock) for clock in stand.clocks]
    names = [row[0] for row in custom.clocks]
    for change in custom.clauses[index].changes if index is not None else ():
        if isinstance(change, ToRoom):
            room = change.room
        elif isinstance(change, Put):
            seats[custom.seats.index(change.seat)] = told_person(custom, stand, deed, change.what)
        elif isinstance(change, Zero):
            clocks[names.index(change.clock)][0] = 0
        else:
            clocks[names.index(change.clock)][1] = isinstance(change, Run)
    return Stand(room, seats, clocks)


def told_ticked(custom, stand):
    clocks = []
    for (number, running), row in zip(stand.clocks, custom.clocks):
        clocks.append((min(number + 1, row[1]) if running else number, running))
    return Stand(stand.room, stand.seats, clocks)


def told_steps(custom, history, start=None):
    """For each step (year, place, deed, clause, stand ahead and ticked, stand behind)."""
    stand = custom.start if start is None else start
    for year, deeds in enumerate(history.years):
        for place, deed in enumerate((*deeds, None)):
            ahead = told_ticked(custom, stand) if deed is None else stand
            stand = told_after(custom, ahead, deed)
            yield year, place, deed, told_acting(custom, ahead, deed), ahead, stand


def told_ends(custom, history):
    """The stands at the start and at each year's end."""
    return [custom.start] + [row[5] for row in told_steps(custom, history) if row[2] is None]


# Small customs, histories and stands at random, always the same ones for the same seed.
NAMES = ("a", "b", "c", "d")


def random_condition(rnd, rooms, seats, clocks, arity):
    whats = [*seats, "nobody", *("first", "second")[:arity]]
    sorts = ["room", "is"] + (["pair"] if arity == 2 else []) + (["clock", "clock"] if clocks else [])
    sort = rnd.choice(sorts)
    if sort == "room":
        return rnd.choice((InRoom, NotInRoom))(rnd.choice(rooms))
    if sort == "is":
        seat = rnd.choice(seats)
        return rnd.choice((Is, IsNot))(seat, rnd.choice([what for what in whats if what != seat]))
    if sort == "pair":
        return rnd.choice((SamePerson, Apart))()
    clock = rnd.choice(clocks)
    return rnd.choice((AtLeast, Below))(clock[0], rnd.randint(1, clock[1]))


def random_clause(rnd, kind, arity, rooms, seats, clocks):
    conditions = []
    for _ in range(rnd.choice((0, 1, 1, 2, 2, 3))):
        condition = random_condition(rnd, rooms, seats, clocks, arity)
        if condition not in conditions:
            conditions.append(condition)
    whats = [*seats, "nobody", *("first", "second")[:arity]]
    changes = []
    if rnd.random() < 0.5:
        changes.append(ToRoom(rnd.choice(rooms)))
    for seat in seats:
        if rnd.random() < 0.5:
            changes.append(Put(seat, rnd.choice([what for what in whats if what != seat])))
    for clock in clocks:
        if rnd.random() < 0.4:
            changes.append(Zero(clock[0]))
        if rnd.random() < 0.4:
            changes.append(rnd.choice((Run, Halt))(clock[0]))
    rnd.shuffle(changes)
    return Clause(kind, conditions, changes[:8])


def random_custom(seed, most=8, cap=4):
    rnd = random.Random(seed)
    kinds = Kinds([(name, rnd.randint(0, 2)) for name in ("x", "y", "z")[:rnd.randint(1, 3)]])
    rooms = ("r", "s", "t")[:rnd.randint(1, 3)]
    seats = ("p", "q", "o")[:rnd.randint(1, 3)]
    clocks = [(name, rnd.randint(1, cap), rnd.random() < 0.6) for name in ("k", "l")[:rnd.randint(0, 2)]]
    clauses = []
    for _ in range(rnd.randint(0, most)):
        kind, arity = rnd.choice((*kinds.rows, ("year", 0)))
        clauses.append(random_clause(rnd, kind, arity, rooms, seats, clocks))
    return Custom(kinds, rooms, seats, clocks, clauses)


def random_history(seed, kinds, years=6, deeds=4, names=NAMES):
    rnd = random.Random(seed)
    made = []
    for _ in range(rnd.randint(0, years)):
        year = []
        for _ in range(rnd.randint(0, deeds)):
            name, arity = rnd.choice(kinds.rows)
            year.append((name, *[rnd.choice(names) for _ in range(arity)]))
        made.append(year)
    return History(kinds, made)


def random_stand(seed, custom, names=NAMES):
    rnd = random.Random(seed)
    seats = [rnd.choice((None, *names)) for _ in custom.seats]
    clocks = [(rnd.randint(0, clock[1]), rnd.random() < 0.5) for clock in custom.clocks]
    return Stand(rnd.choice(custom.rooms), seats, clocks)


def all_deeds(kinds, names):
    """All deeds by these persons."""
    found = []
    for name, arity in kinds.rows:
        rows = [(name,)]
        for _ in range(arity):
            rows = [(*row, person) for row in rows for person in names]
        found.extend(rows)
    return found


def every_stand(custom, names):
    """All stands of the shape with these persons, each seat and clock taken by itself."""
    rows = [()]
    for _ in custom.seats:
        rows = [(*row, person) for row in rows for person in (None, *names)]
    faces = [()]
    for clock in custom.clocks:
        shown = [(number, running) for number in range(clock[1] + 1) for running in (False, True)]
        faces = [(*face, one) for face in faces for one in shown]
    return [Stand(room, row, face) for room in custom.rooms for row in rows for face in faces]
