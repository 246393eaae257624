"""Conditions, changes and clauses."""

from searchback.errors import BadChange, BadClause, BadCondition
from searchback.labels import is_label, is_sequence, is_whole
from searchback.stand import GREATEST_NUMBER

# These stand for the persons of a deed and for nobody, so no seat is called so.
NO_SEATS = ("first", "second", "nobody")
MOST_CONDITIONS = 6
MOST_CHANGES = 8


def is_seat_name(thing):
    """Whether a seat can be called so."""
    return is_label(thing) and thing not in NO_SEATS


class Condition:
    """The base of the conditions."""

    def __eq__(self, other):
        return isinstance(other, Condition) and self.__class__.__name__ == other.__class__.__name__


class InRoom(Condition):
    """The thing is in the room."""

    def __init__(self, room):
        if not is_label(room):
            raise BadCondition("room")
        self.room = room

    def __eq__(self, other):
        return isinstance(other, InRoom) and self.room == other.room

    def opposite(self):
        """The condition that holds exactly if this one does not."""
        return NotInRoom(self.room)


class NotInRoom(Condition):
    """The thing is in another room."""

    def __init__(self, room):
        if not is_label(room):
            raise BadCondition("room")
        self.room = room

    def __eq__(self, other):
        return isinstance(other, NotInRoom) and self.room == other.room

    def opposite(self):
        """The condition that holds exactly if this one does not."""
        return InRoom(self.room)


class Is(Condition):
    """The seat holds this person, or both are nobody."""

    def __init__(self, seat, what):
        word = _seat_fault(seat, what)
        if word is not None:
            raise BadCondition(word)
        self.seat = seat
        self.what = what

    def __eq__(self, other):
        return isinstance(other, Is) and self.seat == other.seat and self.what == other.what

    def opposite(self):
        """The condition that holds exactly if this one does not."""
        return IsNot(self.seat, self.what)


class IsNot(Condition):
    """The seat holds somebody else, or one of the two is nobody."""

    def __init__(self, seat, what):
        word = _seat_fault(seat, what)
        if word is not None:
            raise BadCondition(word)
        self.seat = seat
        self.what = what

    def __eq__(self, other):
        return isinstance(other, IsNot) and self.seat == other.seat and self.what == other.what

    def opposite(self):
        """The condition that holds exactly if this one does not."""
        return Is(self.seat, self.what)


class SamePerson(Condition):
    """Both persons of the deed are one."""

    def __eq__(self, other):
        return isinstance(other, SamePerson)

    def opposite(self):
        """The condition that holds exactly if this one does not."""
        return Apart()


class Apart(Condition):
    """The persons of the deed are two."""

    def __eq__(self, other):
        return isinstance(other, Apart)

    def opposite(self):
        """The condition that holds exactly if this one does not."""
        return SamePerson()


class AtLeast(Condition):
    """The clock shows at least the number, running or not."""

    def __init__(self, clock, number):
        word = _number_fault(clock, number)
        if word is not None:
            raise BadCondition(word)
        self.clock = clock
        self.number = number

    def __eq__(self, other):
        return isinstance(other, AtLeast) and self.clock == other.clock and self.number == other.number

    def opposite(self):
        """The condition that holds exactly if this one does not."""
        return Below(self.clock, self.number)


class Below(Condition):
    """The clock shows less than the number, running or not."""

    def __init__(self, clock, number):
        word = _number_fault(clock, number)
        if word is not None:
            raise BadCondition(word)
        self.clock = clock
        self.number = number

    def __eq__(self, other):
        return isinstance(other, Below) and self.clock == other.clock and self.number == other.number

    def opposite(self):
        """The condition that holds exactly if this one does not."""
        return AtLeast(self.clock, self.number)


class Change:
    """The base of the changes."""

    def __eq__(self, other):
        return isinstance(other, Change) and self.__class__.__name__ == other.__class__.__name__


class ToRoom(Change):
    """The thing goes to the room."""

    def __init__(self, room):
        if not is_label(room):
            raise BadChange("room")
        self.room = room

    def __eq__(self, other):
        return isinstance(other, ToRoom) and self.room == other.room


class Put(Change):
    """The seat gets this person or nobody."""

    def __init__(self, seat, what):
        word = _seat_fault(seat, what)
        if word is not None:
            raise BadChange(word)
        self.seat = seat
        self.what = what

    def __eq__(self, other):
        return isinstance(other, Put) and self.seat == other.seat and self.what == other.what


class Zero(Change):
    """The clock shows 0; if it runs, it goes on running."""

    def __init__(self, clock):
        if not is_label(clock):
            raise BadChange("clock")
        self.clock = clock

    def __eq__(self, other):
        return isinstance(other, Zero) and self.clock == other.clock


class Run(Change):
    """The clock runs."""

    def __init__(self, clock):
        if not is_label(clock):
            raise BadChange("clock")
        self.clock = clock

    def __eq__(self, other):
        return isinstance(other, Run) and self.clock == other.clock


class Halt(Change):
    """The clock is halted and keeps its number."""

    def __init__(self, clock):
        if not is_label(clock):
            raise BadChange("clock")
        self.clock = clock

    def __eq__(self, other):
        return isinstance(other, Halt) and self.clock == other.clock


class Clause:
    """What deeds of a kind, or the year's end, change under some conditions."""

    def __init__(self, kind, conditions=(), changes=()):
        if not is_label(kind):
            raise BadClause(0, "kind")
        _check_conditions(conditions)
        _check_changes(changes)
        self.kind = kind
        self.conditions = tuple(conditions)
        self.changes = tuple(changes)

    def __eq__(self, other):
        if not isinstance(other, Clause) or self.kind != other.kind:
            return False
        return self.conditions == other.conditions and self.changes == other.changes

    @property
    def arity(self):
        """The number of persons that a deed must have for this clause."""
        pieces = (*self.conditions, *self.changes)
        whats = [piece.what for piece in pieces if isinstance(piece, (Is, IsNot, Put))]
        pairs = [piece for piece in pieces if isinstance(piece, (SamePerson, Apart))]
        if "second" in whats or pairs:
            return 2
        return 1 if "first" in whats else 0

    def with_condition(self, condition):
        """The clause with one more condition, the last."""
        return Clause(self.kind, (*self.conditions, condition), self.changes)

    def split(self, condition):
        """The clause with the condition, and the clause with its opposite."""
        held = self.with_condition(condition)
        return (held, self.with_condition(condition.opposite()))


def _seat_fault(seat, what):
    if not is_seat_name(seat):
        return "seat"
    if not is_label(what) or what == seat:
        return "what"
    return None


def _number_fault(clock, number):
    if not is_label(clock):
        return "clock"
    if not is_whole(number, 1, GREATEST_NUMBER):
        return "number"
    return None


def _check_conditions(conditions):
    if not is_sequence(conditions) or len(conditions) > MOST_CONDITIONS:
        raise BadClause(0, "conditions")
    for index, condition in enumerate(conditions):
        if not isinstance(condition, Condition):
            raise BadClause(index, "condition")
        if condition in conditions[:index]:
            raise BadClause(index, "double")


def _check_changes(changes):
    if not is_sequence(changes) or len(changes) > MOST_CHANGES:
        raise BadClause(0, "changes")
    changed = []
    for index, change in enumerate(changes):
        if not isinstance(change, Change):
            raise BadClause(index, "change")
        if _changed_by(change) in changed:
            raise BadClause(index, "twice")
        changed.append(_changed_by(change))


def _changed_by(change):
    """What the change changes; the number of a clock and its running are two things."""
    if isinstance(change, ToRoom):
        return ("room", "")
    if isinstance(change, Put):
        return ("seat", change.seat)
    if isinstance(change, Zero):
        return ("number", change.clock)
    return ("running", change.clock)
