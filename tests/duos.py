"""Two customs side by side by the second way to walk: all pairs that come, found plainly."""

import random

from searchback.clauses import Clause
from searchback.customs import Custom
from searchback.stand import Stand
from tests.helpers import (
    all_deeds, lively_clause, random_condition, told_after, told_answer, told_end, told_joint, told_persons,
)


def told_duo_deeds(one, other, pair):
    """All pairs behind a deed, by the persons of the pair and two strangers."""
    stands = [Stand(*code) for code in pair]
    persons = told_persons(*stands)
    names = (*persons, *[label for label in "abcdefgh" if label not in persons][:2])
    for deed in all_deeds(one.kinds, names):
        yield told_joint(told_after(one, stands[0], deed), told_after(other, stands[1], deed))


def told_duo_end(one, other, pair):
    return told_joint(told_end(one, Stand(*pair[0])), told_end(other, Stand(*pair[1])))


def told_duo_closure(one, other, pairs):
    found, waiting = set(pairs), list(pairs)
    while waiting:
        for to in told_duo_deeds(one, other, waiting.pop()):
            if to not in found:
                found.add(to)
                waiting.append(to)
    return found


def told_duo(one, other):
    """The pairs that come at year's ends for the first time behind 0, 1, 2, .. years, and all moments."""
    start = (one.start.code, other.start.code)
    rows, ends, moments = [{start}], {start}, set()
    while rows[-1]:
        reached = told_duo_closure(one, other, rows[-1])
        moments |= reached
        rows.append({told_duo_end(one, other, pair) for pair in reached} - ends)
        ends |= rows[-1]
    return rows, ends, moments


def told_parted(one, other, pair, question, covers=False):
    first = told_answer(one, Stand(*pair[0]), question)
    second = told_answer(other, Stand(*pair[1]), question)
    return first != second and not (covers and second is None)


def told_parting_years(one, other, questions, covers=False):
    for years, row in enumerate(told_duo(one, other)[0]):
        if any(told_parted(one, other, pair, question, covers) for pair in row for question in questions):
            return years
    return None


def changed_custom(seed, custom):
    """The custom with something about its clauses changed, or nothing that counts."""
    rnd = random.Random(seed)
    clauses = list(custom.clauses)
    choice = rnd.randrange(7)
    if choice == 0 and clauses:
        clauses.pop(rnd.randrange(len(clauses)))
    elif choice == 1:
        rnd.shuffle(clauses)
    elif choice == 2 and clauses:
        index = rnd.randrange(len(clauses))
        clause = clauses[index]
        clauses[index] = Clause(clause.kind, clause.conditions, clause.changes[1:])
    elif choice == 3 and len(clauses) < 12:
        kind, arity = rnd.choice((*custom.kinds.rows, ("year", 0)))
        clauses.append(lively_clause(rnd, kind, arity, custom.rooms, custom.seats, custom.clocks))
    elif choice == 4 and clauses and len(clauses) < 12:
        index = rnd.randrange(len(clauses))
        kind = clauses[index].kind
        arity = 0 if kind == "year" else custom.kinds.arity_of(kind)
        condition = random_condition(rnd, custom.rooms, custom.seats, custom.clocks, arity)
        held = clauses[index].conditions
        if condition not in held and condition.opposite() not in held and len(held) < 6:
            return custom.split(index, condition)
    elif choice == 5:
        for index, clause in enumerate(list(clauses)):
            if rnd.random() < 0.4:
                clauses[index] = Clause(clause.kind, clause.conditions[1:], clause.changes)
    return custom.with_clauses(clauses)


def widened_custom(seed, custom):
    """The custom with one more room, or seat, or clock, that nothing speaks of."""
    rooms, seats, clocks = custom.rooms, custom.seats, custom.clocks
    if seed % 3 == 0 and len(rooms) < 3:
        rooms = (*rooms, "far")
    elif seed % 3 == 1 and len(seats) < 3:
        seats = (*seats, "far")
    elif len(clocks) < 2:
        clocks = (*clocks, ("far", 2, seed % 2 == 0))
    return Custom(custom.kinds, rooms, seats, clocks, custom.clauses)
