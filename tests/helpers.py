"""What several tests use: refusals with all their words, and a plain second way to walk."""

import copy
import itertools
import random
import unittest

from searchback.abstracts import Abstract
from searchback.clauses import (
    Apart, AtLeast, Below, Clause, Halt, InRoom, Is, IsNot, NotInRoom, Put, Run, SamePerson, ToRoom, Zero,
)
from searchback.customs import Custom
from searchback.entries import Holding, Known, Noted, Unknown, Without
from searchback.histories import History
from searchback.kinds import Kinds
from searchback.questions import Filled, Reached, Room, Together, Who
from searchback.stand import Stand


class Odd:
    """A thing of no kind that the document knows."""


class EqualToAll:
    """A thing that says of itself that it is equal to everything."""

    def __eq__(self, other):
        return True

    def __hash__(self):
        return hash("a")


NO_LABELS = (
    None, 0, 1, True, 1.5, "", "A", "aB", "abcdefg", "a1", "a b", "a\n", " a", "a-b", "\u00e9", "\u00df",
    "\u0430", b"a", ["a"], ("a",), {"a": 1}, {"a"}, Odd(),
)
NO_SEQUENCES = (None, 0, True, "", "ab", b"ab", {}, {"a": 1}, {"a"}, frozenset(), range(2), iter(()), Odd())
NO_WHOLES = (None, True, False, 1.0, "1", "", b"1", [1], (1,), {1: 1}, Odd())
SEATLESS = ("first", "second", "nobody")


class Case(unittest.TestCase):
    """A test case that asks for an error's class and for all of its attributes."""

    maxDiff = None

    def refuses(self, error, call, *args, **named):
        """Check that the call raises this very error, made with these things."""
        kind, wanted = error[0], tuple(error[1:])
        with self.assertRaises(kind) as caught:
            call(*args, **named)
        self.assertIs(type(caught.exception), kind)
        found = tuple(vars(caught.exception).values())
        self.assertEqual(len(found), len(wanted), (found, wanted))
        for one, other in zip(found, wanted):
            self.assertIs(type(one), type(other), (found, wanted))
            self.assertTrue(one is other or one == other, (found, wanted))

    def same_only(self, made, unlike):
        """Check that made() is equal to itself made again, and to none of the unlike things."""
        self.assertTrue(made() == made())
        self.assertFalse(made() != made())
        for other in (*unlike, None, 0, "a", (), [], Odd()):
            self.assertFalse(made() == other, other)
            self.assertFalse(other == made(), other)
            self.assertTrue(made() != other, other)

    def keeps_nothing(self, call, *args):
        """Check that a call changes nothing it is given, and that later changes have no effect."""
        before = copy.deepcopy(args)
        made = call(*args)
        self.assertEqual(args, before)
        for arg in args:
            spoil(arg)
        self.assertEqual(made, call(*before))
        return made

    def is_tuple_throughout(self, thing):
        """Check that no list is within the thing."""
        self.assertIs(type(thing), tuple)
        for item in thing:
            if isinstance(item, (list, tuple)):
                self.is_tuple_throughout(item)


def spoil(thing):
    """Empty all lists and dicts within the thing."""
    if isinstance(thing, (list, tuple)):
        for item in thing:
            spoil(item)
    if isinstance(thing, list):
        thing.clear()
    if isinstance(thing, dict):
        thing.clear()


# A custom of three rooms, three seats and two clocks, in which nearly everything occurs.
def wide_custom():
    kinds = Kinds([("open", 0), ("takes", 1), ("sells", 2)])
    return Custom(kinds, ["calm", "suit", "shut"], ["owner", "heir", "agent"], [("idle", 3, True), ("age", 5, False)], [
        Clause("takes", [Is("owner", "nobody"), NotInRoom("shut")], [Put("owner", "first"), Zero("idle"), Run("age")]),
        Clause("sells", [Is("owner", "first"), Apart()], [Put("owner", "second"), Put("agent", "owner")]),
        Clause("sells", [SamePerson()], [Put("heir", "first")]),
        Clause("open", [InRoom("calm")], [ToRoom("suit"), Halt("age")]),
        Clause("open", [InRoom("suit")], [ToRoom("calm"), Put("owner", "heir"), Put("heir", "owner")]),
        Clause("open", [], []),
        Clause("year", [AtLeast("idle", 3), Below("age", 4)], [Put("owner", "nobody"), Zero("idle")]),
        Clause("year", [IsNot("agent", "owner"), AtLeast("age", 5)], [ToRoom("shut"), Zero("age"), Halt("idle")]),
    ])


def plain_custom():
    """The custom of the example of part 3."""
    kinds = Kinds([("sells", 2), ("takes", 1)])
    return Custom(kinds, ["free"], ["owner"], [("idle", 3, True)], [
        Clause("sells", [Is("owner", "first")], [Put("owner", "second"), Zero("idle")]),
        Clause("takes", [Is("owner", "nobody")], [Put("owner", "first"), Zero("idle")]),
        Clause("year", [AtLeast("idle", 3)], [Put("owner", "nobody")])])


# A second way to walk, written down as the document says it, without the package's own steps.
def told_person(custom, stand, deed, what):
    if what == "nobody":
        return None
    if what in ("first", "second"):
        return deed[1 if what == "first" else 2]
    return stand.seats[custom.seats.index(what)]


def told_number(custom, stand, clock):
    return stand.clocks[[row[0] for row in custom.clocks].index(clock)][0]


def told_holds(custom, stand, deed, condition):
    kind = type(condition)
    if kind in (InRoom, NotInRoom):
        return (stand.room == condition.room) == (kind is InRoom)
    if kind in (Is, IsNot):
        seat = told_person(custom, stand, deed, condition.seat)
        return (seat == told_person(custom, stand, deed, condition.what)) == (kind is Is)
    if kind in (SamePerson, Apart):
        return (deed[1] == deed[2]) == (kind is SamePerson)
    number = told_number(custom, stand, condition.clock)
    return number >= condition.number if kind is AtLeast else number < condition.number


def told_acting(custom, stand, deed):
    """The index of the clause that acts; the stand is a ticked one if the deed is None."""
    kind = "year" if deed is None else deed[0]
    for index, clause in enumerate(custom.clauses):
        if clause.kind == kind and all(told_holds(custom, stand, deed, held) for held in clause.conditions):
            return index
    return None


def told_after(custom, stand, deed):
    index = told_acting(custom, stand, deed)
    room, seats, clocks = stand.room, list(stand.seats), [list(clock) for clock in stand.clocks]
    names = [row[0] for row in custom.clocks]
    for change in custom.clauses[index].changes if index is not None else ():
        if isinstance(change, ToRoom):
            room = change.room
        elif isinstance(change, Put):
            seats[custom.seats.index(change.seat)] = told_person(custom, stand, deed, change.what)
        elif isinstance(change, Zero):
            clocks[names.index(change.clock)][0] = 0
        else:
            clocks[names.index(change.clock)][1] = isinstance(change, Run)
    return Stand(room, seats, clocks)


def told_ticked(custom, stand):
    clocks = []
    for (number, running), row in zip(stand.clocks, custom.clocks):
        clocks.append((min(number + 1, row[1]) if running else number, running))
    return Stand(stand.room, stand.seats, clocks)


def told_steps(custom, history, start=None):
    """For each step (year, place, deed, clause, stand ahead and ticked, stand behind)."""
    stand = custom.start if start is None else start
    for year, deeds in enumerate(history.years):
        for place, deed in enumerate((*deeds, None)):
            ahead = told_ticked(custom, stand) if deed is None else stand
            stand = told_after(custom, ahead, deed)
            yield year, place, deed, told_acting(custom, ahead, deed), ahead, stand


def told_ends(custom, history):
    """The stands at the start and at each year's end."""
    return [custom.start] + [row[5] for row in told_steps(custom, history) if row[2] is None]


# Small customs, histories and stands at random, always the same ones for the same seed.
NAMES = ("a", "b", "c", "d")


def random_condition(rnd, rooms, seats, clocks, arity):
    whats = [*seats, "nobody", *("first", "second")[:arity]]
    sorts = ["room", "is"] + (["pair"] if arity == 2 else []) + (["clock", "clock"] if clocks else [])
    sort = rnd.choice(sorts)
    if sort == "room":
        return rnd.choice((InRoom, NotInRoom))(rnd.choice(rooms))
    if sort == "is":
        seat = rnd.choice(seats)
        return rnd.choice((Is, IsNot))(seat, rnd.choice([what for what in whats if what != seat]))
    if sort == "pair":
        return rnd.choice((SamePerson, Apart))()
    clock = rnd.choice(clocks)
    return rnd.choice((AtLeast, Below))(clock[0], rnd.randint(1, clock[1]))


def random_clause(rnd, kind, arity, rooms, seats, clocks):
    conditions = []
    for _ in range(rnd.choice((0, 1, 1, 2, 2, 3))):
        condition = random_condition(rnd, rooms, seats, clocks, arity)
        if condition not in conditions:
            conditions.append(condition)
    whats = [*seats, "nobody", *("first", "second")[:arity]]
    changes = []
    if rnd.random() < 0.5:
        changes.append(ToRoom(rnd.choice(rooms)))
    for seat in seats:
        if rnd.random() < 0.5:
            changes.append(Put(seat, rnd.choice([what for what in whats if what != seat])))
    for clock in clocks:
        if rnd.random() < 0.4:
            changes.append(Zero(clock[0]))
        if rnd.random() < 0.4:
            changes.append(rnd.choice((Run, Halt))(clock[0]))
    rnd.shuffle(changes)
    return Clause(kind, conditions, changes[:8])


def random_custom(seed, most=8, cap=4):
    rnd = random.Random(seed)
    kinds = Kinds([(name, rnd.randint(0, 2)) for name in ("x", "y", "z")[:rnd.randint(1, 3)]])
    rooms = ("r", "s", "t")[:rnd.randint(1, 3)]
    seats = ("p", "q", "o")[:rnd.randint(1, 3)]
    clocks = [(name, rnd.randint(1, cap), rnd.random() < 0.6) for name in ("k", "l")[:rnd.randint(0, 2)]]
    clauses = []
    for _ in range(rnd.randint(0, most)):
        kind, arity = rnd.choice((*kinds.rows, ("year", 0)))
        clauses.append(random_clause(rnd, kind, arity, rooms, seats, clocks))
    return Custom(kinds, rooms, seats, clocks, clauses)


def random_history(seed, kinds, years=6, deeds=4, names=NAMES):
    rnd = random.Random(seed)
    made = []
    for _ in range(rnd.randint(0, years)):
        year = []
        for _ in range(rnd.randint(0, deeds)):
            name, arity = rnd.choice(kinds.rows)
            year.append((name, *[rnd.choice(names) for _ in range(arity)]))
        made.append(year)
    return History(kinds, made)


def random_stand(seed, custom, names=NAMES):
    rnd = random.Random(seed)
    seats = [rnd.choice((None, *names)) for _ in custom.seats]
    clocks = [(rnd.randint(0, clock[1]), rnd.random() < 0.5) for clock in custom.clocks]
    return Stand(rnd.choice(custom.rooms), seats, clocks)


def all_deeds(kinds, names):
    """All deeds by these persons."""
    found = []
    for name, arity in kinds.rows:
        rows = [(name,)]
        for _ in range(arity):
            rows = [(*row, person) for row in rows for person in names]
        found.extend(rows)
    return found


def every_stand(custom, names):
    """All stands of the shape with these persons, each seat and clock taken by itself."""
    rows = [()]
    for _ in custom.seats:
        rows = [(*row, person) for row in rows for person in (None, *names)]
    faces = [()]
    for clock in custom.clocks:
        shown = [(number, running) for number in range(clock[1] + 1) for running in (False, True)]
        faces = [(*face, one) for face in faces for one in shown]
    return [Stand(room, row, face) for room in custom.rooms for row in rows for face in faces]


# Plain stands, and a plain search through all that come, by the second way to walk.
def told_plain(stand):
    names = {}
    seats = []
    for person in stand.seats:
        if person is not None and person not in names:
            names[person] = "abcdef"[len(names)]
        seats.append(None if person is None else names[person])
    return Stand(stand.room, seats, stand.clocks)


def told_persons(*stands):
    found = []
    for stand in stands:
        found.extend(person for person in stand.seats if person is not None and person not in found)
    return tuple(found)


def told_end(custom, stand):
    return told_after(custom, told_ticked(custom, stand), None)


def told_years(custom, stand, deeds):
    """The stand behind these deeds and the year's end."""
    for deed in deeds:
        stand = told_after(custom, stand, deed)
    return told_end(custom, stand)


def told_closure(custom, codes, kinds, plain=told_plain, names=("a", "b", "c", "x", "y")):
    """The codes of all that deeds of these kinds lead to; two of the names are always strangers."""
    found = set(codes)
    waiting = list(found)
    deeds = [deed for deed in all_deeds(custom.kinds, names) if deed[0] in kinds]
    while waiting:
        stand = Stand(*waiting.pop())
        for deed in deeds:
            code = plain(told_after(custom, stand, deed)).code
            if code not in found:
                found.add(code)
                waiting.append(code)
    return found


def told_coming(custom, most=1000):
    """For each number of years the codes of the plain stands at its end and at its moments."""
    ends, moments, rows = set(), set(), []
    new = {custom.start.code}
    while new and len(rows) <= most:
        reached = told_closure(custom, new, custom.kinds.names)
        ends |= new
        rows.append((new, reached - moments))
        moments |= reached
        new = {told_plain(told_end(custom, Stand(*code))).code for code in rows[-1][1]} - ends
    return rows, ends, moments


def small_customs(many, most=400, cap=2, clauses=8):
    """Drawn customs of at most so many stands, each with its number."""
    for seed in range(many):
        custom = random_custom(seed, most=clauses, cap=cap)
        if custom.most_stands <= most:
            yield seed, custom


def clocked_custom(rooms, seats, *clocks, kinds=(("x", 1),), clauses=()):
    """A custom of this shape: the numbers of its rooms and seats, and the caps of its clocks."""
    rows = [(name, cap, True) for name, cap in zip(("k", "l"), clocks)]
    return Custom(Kinds(kinds), ("r", "s", "t")[:rooms], ("p", "q", "o")[:seats], rows, clauses)


# Pairs of stands by the second way to walk: they are pairs of codes, plain together.
def told_joint(one, other):
    joint = told_plain(Stand("r", (*one.seats,)))
    names = dict(zip(told_persons(one), told_persons(joint)))
    for person in told_persons(other):
        names.setdefault(person, "abcdef"[len(names)])
    seats = [tuple(None if person is None else names[person] for person in stand.seats) for stand in (one, other)]
    return (Stand(one.room, seats[0], one.clocks).code, Stand(other.room, seats[1], other.clocks).code)


def told_pair_deeds(custom, pair, without=()):
    """All pairs behind a deed that is let, one after another with the deeds."""
    persons = told_persons(*[Stand(*code) for code in pair])
    names = (*persons, *[label for label in "abcdefgh" if label not in persons][:2])
    for deed in all_deeds(custom.kinds, names):
        if deed[0] not in without:
            yield deed, told_joint(*[told_after(custom, Stand(*code), deed) for code in pair])


def told_pair_end(custom, pair):
    return told_joint(*[told_end(custom, Stand(*code)) for code in pair])


def told_unlike(custom, pair, questions):
    one, other = [Stand(*code) for code in pair]
    return any(told_answer(custom, one, asked) != told_answer(custom, other, asked) for asked in questions)


def told_answer(custom, stand, question):
    name = type(question).__name__
    seats = dict(zip(custom.seats, stand.seats))
    if name == "Who":
        return seats[question.seat]
    if name == "Room":
        return stand.room
    if name == "Filled":
        return seats[question.seat] is not None
    if name == "Together":
        return seats[question.seat] == seats[question.other]
    return told_number(custom, stand, question.clock) >= question.number


def told_beginnings(custom):
    """The plain pairs of ends of histories, as pairs of codes."""
    _, ends, _ = told_coming(custom)
    found = set()
    for one in ends:
        for other in ends:
            persons = told_persons(Stand(*other))
            for names in itertools.permutations("abcdef", len(persons)):
                renamed = Stand(*other).renamed(dict(zip(persons, names)))
                found.add(told_joint(Stand(*one), renamed))
    return found


def told_pair_graph(custom, pairs, without=()):
    """For each pair to which some of these lead, the set of those behind a deed, and the one behind the end."""
    graph = {}
    waiting = list(pairs)
    while waiting:
        pair = waiting.pop()
        if pair not in graph:
            behind = {to for _, to in told_pair_deeds(custom, pair, without)}
            graph[pair] = (behind, told_pair_end(custom, pair))
            waiting.extend(behind)
            waiting.append(graph[pair][1])
    return graph


def told_reaching(graph, goals):
    """All pairs from which deeds and one year's end lead into the goals."""
    found = {pair for pair, (_, end) in graph.items() if end in goals}
    size = -1
    while size < len(found):
        size = len(found)
        found |= {pair for pair, (behind, _) in graph.items() if behind & found}
    return found


def told_heights(custom, graph, questions):
    """The height of each pair of the graph; None where there is no bound."""
    rows = [told_reaching(graph, {pair for pair in graph if told_unlike(custom, pair, questions)})]
    while rows[-1] and rows[-1] not in rows[:-1]:
        rows.append(told_reaching(graph, rows[-1]))
    endless = set()
    if rows[-1]:
        for row in rows[rows.index(rows[-1]):]:
            endless |= row
    heights = {}
    for pair in graph:
        heights[pair] = max([0, *[height + 1 for height, row in enumerate(rows) if pair in row]])
        if pair in endless:
            heights[pair] = None
    return heights


def told_years_of(custom, heights, pair, questions):
    if heights[pair] is None:
        return None
    if heights[pair] == 0:
        return 1 if told_unlike(custom, pair, questions) else 0
    return heights[pair] + 1


def drawn_questions(seed, custom, most=1):
    """Some different questions of the custom."""
    rnd = random.Random(seed)
    asked = [Room(), *[Who(seat) for seat in custom.seats], *[Filled(seat) for seat in custom.seats]]
    asked += [Together(one, other) for one, other in itertools.permutations(custom.seats, 2)]
    asked += [Reached(clock[0], rnd.randint(1, clock[1])) for clock in custom.clocks]
    return rnd.sample(asked, rnd.randint(1, min(most, len(asked))))


def lively_custom(seed, seats=2, cap=3):
    """A drawn custom in which persons come to sit, and clocks go up and act at their caps."""
    rnd = random.Random(seed)
    kinds = Kinds([(name, rnd.choice((0, 1, 1, 2))) for name in ("x", "y", "z")[:rnd.randint(1, 3)]])
    rooms = ("r", "s")[:rnd.choice((1, 1, 2))]
    names = ("p", "q", "o")[:rnd.randint(1, seats)]
    clocks = [("k", rnd.randint(1, cap), rnd.random() < 0.9)][:rnd.choice((0, 1, 1, 1))]
    clauses = []
    for kind, arity in kinds.rows:
        for _ in range(rnd.choice((1, 1, 2))):
            clauses.append(lively_clause(rnd, kind, arity, rooms, names, clocks))
    for clock in clocks:
        clauses.append(Clause("year", [AtLeast("k", clock[1])], [
            rnd.choice((Put(rnd.choice(names), "nobody"), ToRoom(rnd.choice(rooms)))), Zero("k")][:rnd.choice((1, 2))]))
    if rnd.random() < 0.5:
        clauses.append(lively_clause(rnd, "year", 0, rooms, names, clocks))
    return Custom(kinds, rooms, names, clocks, clauses)


def lively_clause(rnd, kind, arity, rooms, names, clocks):
    conditions = []
    if rnd.random() < 0.5:
        conditions.append(random_condition(rnd, rooms, names, clocks, arity))
    whats = [*("first", "second")[:arity]] * 3 + ["nobody", *names]
    changes = [Put(seat, rnd.choice([what for what in whats if what != seat])) for seat in names if rnd.random() < 0.6]
    if rnd.random() < 0.3:
        changes.append(ToRoom(rnd.choice(rooms)))
    for clock in clocks:
        if rnd.random() < 0.5:
            changes.append(Zero(clock[0]))
        if rnd.random() < 0.3:
            changes.append(rnd.choice((Run, Run, Halt))(clock[0]))
    return Clause(kind, conditions, changes)


def fading_custom(seed, seats=2, cap=4):
    """A drawn custom in which idle years empty the seats, so that the past is forgotten."""
    rnd = random.Random(seed)
    kinds = Kinds([(name, rnd.choice((0, 1, 1, 2))) for name in ("x", "y")[:rnd.randint(1, 2)]])
    rooms = ("r", "s")[:rnd.choice((1, 1, 2))]
    names = ("p", "q", "o")[:rnd.randint(1, seats)]
    clocks = [("k", rnd.randint(1, cap), True)]
    clauses = []
    for kind, arity in kinds.rows:
        conditions = [random_condition(rnd, rooms, names, clocks, arity)] if rnd.random() < 0.3 else []
        whats = [*("first", "second")[:arity]] * 3 + ["nobody", *names]
        changes = [Put(seat, rnd.choice([what for what in whats if what != seat])) for seat in names]
        changes.append(ToRoom(rnd.choice(rooms)))
        clauses.append(Clause(kind, conditions, [*changes, Zero("k")][:rnd.choice((2, 5, 5, 5))]))
    emptied = [Put(seat, "nobody") for seat in names]
    clauses.append(Clause("year", [AtLeast("k", clocks[0][1])], [*emptied, ToRoom(rooms[-1])]))
    if rnd.random() < 0.4:
        clauses.append(lively_clause(rnd, "year", 0, rooms, names, []))
    return Custom(kinds, rooms, names, clocks, clauses)


def guarded_custom(seed, cap=4):
    """A drawn custom in which who sits must act to go on sitting, and others can hurry it on."""
    rnd = random.Random(seed)
    kinds = Kinds([("own", 1), ("push", rnd.choice((0, 1))), ("take", rnd.choice((1, 1, 2)))][:rnd.choice((2, 3, 3))])
    rooms = ("r", "s")[:rnd.choice((1, 2, 2))]
    seats = ("p", "q")[:rnd.choice((1, 1, 1, 2))]
    clocks = [("k", rnd.randint(1, cap), rnd.random() < 0.9)]
    limit = rnd.randint(1, clocks[0][1])
    clauses = [Clause("own", [Is("p", "first"), *[InRoom(rnd.choice(rooms))][:rnd.choice((0, 1))]],
                      [Zero("k"), *[ToRoom(rnd.choice(rooms))][:rnd.choice((0, 1))], *[Run("k")][:rnd.choice((0, 1))]])]
    guard = [random_condition(rnd, rooms, seats, clocks, kinds.arity_of("push")) for _ in range(rnd.choice((0, 1)))]
    pushed = [ToRoom(rnd.choice(rooms)), *[Run("k")][:rnd.choice((0, 1))]]
    if kinds.arity_of("push") == 1 and rnd.random() < 0.7 and IsNot("p", "first") not in guard:
        guard = [*guard, IsNot("p", "first")]
    clauses.append(Clause("push", guard, pushed))
    if "take" in kinds:
        wanted = [rnd.choice((Is("p", "nobody"), AtLeast("k", limit), InRoom(rooms[-1])))]
        clauses.append(Clause("take", wanted, [Put("p", "first"), *[Zero("k")][:rnd.choice((0, 1))]]))
    gone = rnd.choice((Put("p", "nobody"), Put("p", "nobody"), ToRoom(rooms[-1])))
    clauses.append(Clause("year", [AtLeast("k", limit), *[InRoom(rnd.choice(rooms))][:rnd.choice((0, 1))]], [gone]))
    if rnd.random() < 0.6:
        clauses.append(Clause("year", [InRoom(rnd.choice(rooms))], [
            ToRoom(rnd.choice(rooms)), *[Put("p", "nobody")][:rnd.choice((0, 0, 1))]]))
    return Custom(kinds, rooms, seats, clocks, clauses)


def searched_customs(many):
    """Drawn customs of many numbers, endless ones too, each with a number for more choices."""
    for seed in range(many):
        yield seed, (fading_custom, fading_custom, lively_custom)[seed % 3](seed)


# Layers by the second way to walk.
def told_placed(stand, named):
    """The stand with all but the named ones called by the first labels left."""
    labels = [label for label in "abcdefghijklmnop" if label not in named]
    names = {}
    for person in stand.seats:
        if person is not None and person not in named:
            names.setdefault(person, labels[len(names)])
    return Stand(stand.room, [names.get(person, person) for person in stand.seats], stand.clocks)


def told_ahead(custom, named, whole):
    """The codes of the placed stands that can stand ahead of an abstract."""
    if whole:
        return {custom.start.code}
    found = set()
    everyone = (*named, *[label for label in "uvwxyz" if label not in named][:3])
    for code in told_coming(custom)[1]:
        persons = told_persons(Stand(*code))
        for names in itertools.permutations(everyone, len(persons)):
            found.add(told_placed(Stand(*code).renamed(dict(zip(persons, names))), named).code)
    return found


def told_year(custom, named, codes, entry):
    """The codes of the placed stands behind a year that the entry lets."""
    free = entry.free(custom.kinds)
    # Three seats hold at most three who are not named; two more are strangers.
    everyone = (*named, *[label for label in "abcdefghijklmnop" if label not in named][:len(custom.seats) + 2])
    deeds = [deed for deed in all_deeds(custom.kinds, everyone) if deed[0] in free]
    seen = {(code, 0) for code in codes}
    waiting = list(seen)
    while waiting:
        code, place = waiting.pop()
        stand = Stand(*code)
        steps = [(told_after(custom, stand, deed), place) for deed in deeds]
        if place < len(entry.told):
            steps.append((told_after(custom, stand, entry.told[place]), place + 1))
        for behind, at in steps:
            state = (told_placed(behind, named).code, at)
            if state not in seen:
                seen.add(state)
                waiting.append(state)
    ends = [told_end(custom, Stand(*code)) for code, place in seen if place == len(entry.told)]
    return {told_placed(stand, named).code for stand in ends}


def told_layers(custom, abstract):
    layers = [told_ahead(custom, abstract.persons, abstract.whole)]
    for entry in abstract.years:
        layers.append(told_year(custom, abstract.persons, layers[-1], entry))
    return layers


def random_entry(rnd, kinds, names=("ann", "a")):
    """A drawn entry of any class that fits the kinds and names some of these persons."""
    deeds = []
    for _ in range(rnd.choice((0, 1, 1, 2))):
        name, arity = rnd.choice(kinds.rows)
        deeds.append((name, *[rnd.choice(names) for _ in range(arity)]))
    some = rnd.sample(kinds.names, rnd.randint(0, len(kinds)))
    return rnd.choice((
        Known(deeds), Known(deeds), Without(some), Unknown(), Holding(deeds),
        Noted(some, [deed for deed in deeds if deed[0] in some])))


def random_abstract(seed, kinds, years=3, names=("ann", "a")):
    rnd = random.Random(seed)
    entries = [random_entry(rnd, kinds, names) for _ in range(rnd.randint(0, years))]
    return Abstract(kinds, entries, whole=rnd.random() < 0.4)
