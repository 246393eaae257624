"""Clauses worked out for the shape of one custom.

A walk may have a million steps, so names are looked up once for a custom and not at each step.
What a stand is here is its code: the tuple (room, seats, clocks). The view of a deed is the row
of those whom a clause can speak of: the seats, then the first and the second person of the deed,
then nobody. So whatever is compared with a seat, or put into one, is a place of the view.
"""

from searchback.clauses import (
    Apart, AtLeast, InRoom, Is, IsNot, NotInRoom, Put, Run, SamePerson, ToRoom, Zero,
)

ROOM = 0
PERSONS = 1
CLOCK = 2


class Move:
    """One clause: its tests, and what is read off the stand to make the next one.

    A test is a tuple (sort, left, right, wanted). The room is None if it stays. The sources are
    the places of the view from which the seats are filled. The settings are, for each clock, a
    pair (whether it is set to 0, whether it runs afterwards or None if that stays).
    """

    def __init__(self, index, tests, room, sources, settings):
        self.index = index
        self.tests = tests
        self.room = room
        self.sources = sources
        self.settings = settings


def moves_of(clauses, kind, seats, clocks):
    """The moves of the clauses of a kind, in order, for these names of seats and clocks."""
    places = _view_places(seats)
    return tuple([
        _move_of(index, clause, places, seats, clocks)
        for index, clause in enumerate(clauses) if clause.kind == kind
    ])


def idle_move(seats, clocks):
    """What happens where no clause acts: nothing."""
    return Move(None, (), None, tuple(range(len(seats))), tuple([(False, None) for _ in clocks]))


def view_of(seats, deed):
    """The view of a deed, or of the year's end if the deed is None."""
    persons = () if deed is None else deed[1:]
    first = persons[0] if persons else None
    second = persons[1] if len(persons) == 2 else None
    return (*seats, first, second, None)


def holds(test, room, view, clocks):
    """Whether one test holds."""
    sort, left, right, wanted = test
    if sort == PERSONS:
        return (view[left] == view[right]) == wanted
    if sort == ROOM:
        return (room == left) == wanted
    return (clocks[left][0] >= right) == wanted


def all_hold(tests, room, view, clocks):
    """Whether all tests hold."""
    for test in tests:
        if not holds(test, room, view, clocks):
            return False
    return True


def first_fitting(moves, room, view, clocks):
    """The first move whose tests all hold, or None."""
    for move in moves:
        if all_hold(move.tests, room, view, clocks):
            return move
    return None


def moved(move, room, view, clocks):
    """The code of the stand behind a move."""
    return (
        room if move.room is None else move.room,
        tuple([view[place] for place in move.sources]),
        tuple([_set_clock(clock, setting) for clock, setting in zip(clocks, move.settings)]),
    )


def _set_clock(clock, setting):
    number, running = clock
    zero, runs = setting
    return (0 if zero else number, running if runs is None else runs)


def _view_places(seats):
    """The place of the view for each name that a condition or a Put may use."""
    places = {seat: place for place, seat in enumerate(seats)}
    for name in ("first", "second", "nobody"):
        places[name] = len(places)
    return places


def _move_of(index, clause, places, seats, clocks):
    room = None
    sources = {seat: places[seat] for seat in seats}
    zeros = {}
    runs = {}
    for change in clause.changes:
        if isinstance(change, ToRoom):
            room = change.room
        elif isinstance(change, Put):
            sources[change.seat] = places[change.what]
        elif isinstance(change, Zero):
            zeros[change.clock] = True
        else:
            runs[change.clock] = isinstance(change, Run)
    tests = tuple([_test_of(condition, places, clocks) for condition in clause.conditions])
    settings = tuple([(clock in zeros, runs.get(clock)) for clock in clocks])
    return Move(index, tests, room, tuple([sources[seat] for seat in seats]), settings)


def _test_of(condition, places, clocks):
    if isinstance(condition, (InRoom, NotInRoom)):
        return (ROOM, condition.room, None, isinstance(condition, InRoom))
    if isinstance(condition, (Is, IsNot)):
        return (PERSONS, places[condition.seat], places[condition.what], isinstance(condition, Is))
    if isinstance(condition, (SamePerson, Apart)):
        return (PERSONS, places["first"], places["second"], isinstance(condition, SamePerson))
    return (CLOCK, clocks.index(condition.clock), condition.number, isinstance(condition, AtLeast))
