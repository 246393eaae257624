"""Which parts of a custom bear on the answers to questions."""

from searchback.checks import check_questions
from searchback.clauses import Clause, Put, ToRoom
from searchback.customs import Custom
from searchback.parts import named_things
from searchback.questions import Filled, Reached, Together, Who

# Parts are pairs (sort, label); all rooms together are one part.
ROOM_PART = ("room", "")


class Bears:
    """The parts that bear on some answers, and the clauses that change or forestall them."""

    def __init__(self, room, seats, clocks, clauses):
        self.room = room
        self.seats = seats
        self.clocks = clocks
        self.clauses = clauses

    def __eq__(self, other):
        if not isinstance(other, Bears) or self.room != other.room or self.seats != other.seats:
            return False
        return self.clocks == other.clocks and self.clauses == other.clauses


def what_bears(custom, question, *more):
    """The least lot of parts that bears on the answers to these questions."""
    lot = _bearing_parts(custom, (question, *more))
    last = {}
    for index, clause in enumerate(custom.clauses):
        if _changes_some(clause, lot):
            last[clause.kind] = index
    return Bears(
        ROOM_PART in lot,
        tuple([seat for seat in custom.seats if ("seat", seat) in lot]),
        tuple([clock[0] for clock in custom.clocks if ("clock", clock[0]) in lot]),
        tuple([index for index, clause in enumerate(custom.clauses) if index <= last.get(clause.kind, -1)]),
    )


def narrowed(custom, question, *more):
    """The custom with the parts and clauses alone that bear on the answers to these questions."""
    bears = what_bears(custom, question, *more)
    lot = _bearing_parts(custom, (question, *more))
    clauses = []
    for index in bears.clauses:
        clause = custom.clauses[index]
        kept = [change for change in clause.changes if _changed_part(change) in lot]
        clauses.append(Clause(clause.kind, clause.conditions, kept))
    return Custom(
        custom.kinds,
        custom.rooms if bears.room else custom.rooms[:1],
        bears.seats if bears.seats else custom.seats[:1],
        [clock for clock in custom.clocks if clock[0] in bears.clocks],
        clauses,
    )


def _bearing_parts(custom, questions):
    """The least lot, as a dict with the parts as its keys."""
    lot = {}
    check_questions(custom, questions)
    for question in questions:
        for part in _asked_parts(question):
            lot[part] = True
    size = 0
    while size < len(lot):
        size = len(lot)
        for index, clause in enumerate(custom.clauses):
            if _changes_some(clause, lot):
                parts = _parts_behind(custom, index, lot)
                for part in parts:
                    lot[part] = True
    return lot


def _asked_parts(question):
    if isinstance(question, (Who, Filled)):
        return [("seat", question.seat)]
    if isinstance(question, Together):
        return [("seat", question.seat), ("seat", question.other)]
    if isinstance(question, Reached):
        return [("clock", question.clock)]
    return [ROOM_PART]


def _parts_behind(custom, index, lot):
    """The parts that decide whether the clause acts, and what it puts into the seats of the lot."""
    found = []
    for clause in custom.clauses[:index + 1]:
        if clause.kind == custom.clauses[index].kind:
            for condition in clause.conditions:
                found.extend(_named_parts(condition))
            for change in clause.changes:
                if isinstance(change, Put) and _changed_part(change) in lot:
                    found.extend(_named_parts(change))
    return found


def _named_parts(piece):
    return [ROOM_PART if sort == "room" else (sort, name) for sort, name in named_things(piece)]


def _changes_some(clause, lot):
    """Whether the clause changes a part of the lot."""
    return any([_changed_part(change) in lot for change in clause.changes])


def _changed_part(change):
    if isinstance(change, ToRoom):
        return ROOM_PART
    if isinstance(change, Put):
        return ("seat", change.seat)
    return ("clock", change.clock)
