"""Customs: the rules by which a thing is held."""

from searchback.clauses import AtLeast, Below, Clause, is_seat_name
from searchback.errors import BadCustom, BadDeed, BadStand, NoClause
from searchback.kinds import YEAR, Kinds
from searchback.labels import is_label, is_sequence, is_whole
from searchback.moves import first_fitting, moved, moves_of, view_of
from searchback.parts import named_things
from searchback.stand import GREATEST_NUMBER, MOST_CLOCKS, MOST_SEATS, Stand

MOST_ROOMS = 3
MOST_CLAUSES = 12
# The plain rows of 0, 1, 2 and 3 seats.
PLAIN_ROWS = (1, 2, 5, 15)


class Custom:
    """The kinds, rooms, seats and clocks of a thing, and the clauses that change how it stands."""

    def __init__(self, kinds, rooms, seats, clocks, clauses):
        if not isinstance(kinds, Kinds):
            raise BadCustom(0, "kinds")
        _check_rooms(rooms)
        _check_seats(seats)
        _check_clocks(clocks)
        self.kinds = kinds
        self.rooms = tuple(rooms)
        self.seats = tuple(seats)
        self.clocks = tuple([tuple(clock) for clock in clocks])
        _check_clauses(self, clauses)
        self.clauses = tuple(clauses)
        running = [(0, clock[2]) for clock in self.clocks]
        self.start = Stand(self.rooms[0], [None for _ in self.seats], running)
        names = [clock[0] for clock in self.clocks]
        self.moves = {kind: moves_of(self.clauses, kind, self.seats, names) for kind in (*kinds.names, YEAR)}

    def __eq__(self, other):
        if not isinstance(other, Custom) or self.kinds != other.kinds:
            return False
        if self.rooms != other.rooms or self.seats != other.seats:
            return False
        return self.clocks == other.clocks and self.clauses == other.clauses

    def __len__(self):
        return len(self.clauses)

    def __iter__(self):
        return iter(self.clauses)

    @property
    def most_stands(self):
        """The number of plain stands of this shape."""
        many = len(self.rooms) * PLAIN_ROWS[len(self.seats)]
        for clock in self.clocks:
            many = many * 2 * (clock[1] + 1)
        return many

    def with_clauses(self, clauses):
        """The custom with other clauses."""
        return Custom(self.kinds, self.rooms, self.seats, self.clocks, clauses)

    def split(self, index, condition):
        """The custom with one clause replaced by the two of its split."""
        if not is_whole(index, 0, len(self) - 1):
            raise NoClause(index)
        halves = self.clauses[index].split(condition)
        return self.with_clauses((*self.clauses[:index], *halves, *self.clauses[index + 1:]))

    def stand_fault(self, stand):
        """None if the thing is a stand of this shape, else the word for why not."""
        if not isinstance(stand, Stand):
            return "stand"
        if stand.room not in self.rooms:
            return "room"
        if len(stand.seats) != len(self.seats):
            return "seats"
        if len(stand.clocks) != len(self.clocks):
            return "clocks"
        for shown, clock in zip(stand.clocks, self.clocks):
            if shown[0] > clock[1]:
                return "number"
        return None

    def acting(self, stand, deed):
        """The index of the clause that acts at the deed, or None."""
        _check_stand(self, stand)
        _check_deed(self, deed)
        return deed_step(self, stand.code, deed)[0]

    def after(self, stand, deed):
        """The stand behind the deed."""
        _check_stand(self, stand)
        _check_deed(self, deed)
        code = deed_step(self, stand.code, deed)[1]
        return Stand(*code)

    def ticked(self, stand):
        """The stand with its running clocks one up."""
        _check_stand(self, stand)
        return Stand(stand.room, stand.seats, ticked_clocks(self, stand.clocks))

    def acting_at_end(self, stand):
        """The index of the clause that acts at the year's end behind the stand, or None."""
        _check_stand(self, stand)
        return end_step(self, stand.code)[0]

    def after_year(self, stand):
        """The stand behind the year's end."""
        _check_stand(self, stand)
        code = end_step(self, stand.code)[1]
        return Stand(*code)


def deed_step(custom, code, deed):
    """The index of the clause that acts at a deed, or None, and the code behind the deed."""
    return _step(custom.moves[deed[0]], code, view_of(code[1], deed))


def end_step(custom, code):
    """The index of the clause that acts at the year's end, or None, and the code behind it."""
    room, seats, clocks = code
    ticked = (room, seats, ticked_clocks(custom, clocks))
    return _step(custom.moves[YEAR], ticked, view_of(seats, None))


def ticked_clocks(custom, clocks):
    """What the clocks show when the running ones have gone up by 1, but not above their caps."""
    return tuple([
        (min(number + 1, clock[1]) if running else number, running)
        for (number, running), clock in zip(clocks, custom.clocks)
    ])


def _step(moves, code, view):
    move = first_fitting(moves, code[0], view, code[2])
    if move is None:
        return (None, code)
    return (move.index, moved(move, code[0], view, code[2]))


def _check_stand(custom, stand):
    word = custom.stand_fault(stand)
    if word is not None:
        raise BadStand(word)


def _check_deed(custom, deed):
    word = custom.kinds.fault(deed)
    if word is not None:
        raise BadDeed(word)


def _check_rooms(rooms):
    if not is_sequence(rooms) or not 1 <= len(rooms) <= MOST_ROOMS:
        raise BadCustom(0, "rooms")
    for index, room in enumerate(rooms):
        if not is_label(room) or room in rooms[:index]:
            raise BadCustom(index, "room")


def _check_seats(seats):
    if not is_sequence(seats) or not 1 <= len(seats) <= MOST_SEATS:
        raise BadCustom(0, "seats")
    for index, seat in enumerate(seats):
        if not is_seat_name(seat) or seat in seats[:index]:
            raise BadCustom(index, "seat")


def _check_clocks(clocks):
    if not is_sequence(clocks) or len(clocks) > MOST_CLOCKS:
        raise BadCustom(0, "clocks")
    names = []
    for index, clock in enumerate(clocks):
        word = _clock_fault(clock, names)
        if word is not None:
            raise BadCustom(index, word)
        names.append(clock[0])


def _clock_fault(clock, names):
    """The word for why this is no clock behind those of these names, or None."""
    if not is_sequence(clock) or len(clock) != 3:
        return "clock"
    if not is_label(clock[0]) or clock[0] in names:
        return "clock"
    if not is_whole(clock[1], 1, GREATEST_NUMBER):
        return "cap"
    if not isinstance(clock[2], bool):
        return "running"
    return None


def _check_clauses(custom, clauses):
    if not is_sequence(clauses) or len(clauses) > MOST_CLAUSES:
        raise BadCustom(0, "clauses")
    for index, clause in enumerate(clauses):
        word = _clause_fault(custom, clause)
        if word is not None:
            raise BadCustom(index, word)


def _clause_fault(custom, clause):
    """The word for why the custom cannot have this clause, or None."""
    if not isinstance(clause, Clause):
        return "clause"
    if clause.kind != YEAR and clause.kind not in custom.kinds:
        return "kind"
    if clause.arity > (0 if clause.kind == YEAR else custom.kinds.arity_of(clause.kind)):
        return "arity"
    caps = {clock[0]: clock[1] for clock in custom.clocks}
    known = {"room": custom.rooms, "seat": custom.seats, "clock": tuple(caps)}
    for piece in (*clause.conditions, *clause.changes):
        for sort, name in named_things(piece):
            if name not in known[sort]:
                return "unknown"
    for condition in clause.conditions:
        if isinstance(condition, (AtLeast, Below)) and condition.number > caps[condition.clock]:
            return "number"
    return None
