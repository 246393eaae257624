"""Scenes: stands and deeds in which clauses fit or act, or in which two customs part.

Whether a condition on a clock holds hangs on its number alone. So a scene is looked for in two
steps: all rooms, plain seats and deeds are gone through, and for each of them the numbers that
the remaining conditions let are worked out from bounds, not tried one by one. The numbers that
some conditions let are a box: for each clock a pair (low, high), high itself not included.
"""

from searchback.errors import BadShape, NoClause
from searchback.kinds import YEAR
from searchback.labels import is_whole
from searchback.moves import CLOCK, all_hold, idle_move, view_of
from searchback.shapes import kind_deeds, seatings, sitters
from searchback.stand import Stand


class Scene:
    """A stand and a deed, or a ticked stand and None for the year's end."""

    def __init__(self, stand, deed):
        self.stand = stand
        self.deed = deed

    def __eq__(self, other):
        return isinstance(other, Scene) and self.stand == other.stand and self.deed == other.deed


def fitting_scene(custom, index):
    """A scene in which all conditions of the clause hold, or None if there is none."""
    move, _ = _move_and_earlier(custom, index)
    return _scene_of(custom, custom.clauses[index].kind, move, [])


def acting_scene(custom, index):
    """A scene in which the clause acts, or None if there is none."""
    move, earlier = _move_and_earlier(custom, index)
    return _scene_of(custom, custom.clauses[index].kind, move, earlier)


def never_acting(custom):
    """The indexes of all clauses that act in no scene, ascending."""
    return tuple([index for index in range(len(custom)) if acting_scene(custom, index) is None])


def differing_scene(one, other):
    """A scene in which the customs lead to unlike stands, or None if nothing parts them."""
    word = _shape_fault(one, other)
    if word is not None:
        raise BadShape(word)
    for kind in (*one.kinds.names, YEAR):
        scene = _differing_at(one, other, kind)
        if scene is not None:
            return scene
    return None


def _move_and_earlier(custom, index):
    """The move of a clause, and those of the earlier clauses of its kind."""
    if not is_whole(index, 0, len(custom) - 1):
        raise NoClause(index)
    moves = [move for move in custom.moves[custom.clauses[index].kind] if move.index <= index]
    return (moves[-1], moves[:-1])


def _shape_fault(one, other):
    if one.kinds != other.kinds:
        return "kinds"
    if one.rooms != other.rooms:
        return "rooms"
    if one.seats != other.seats:
        return "seats"
    if [clock[:2] for clock in one.clocks] != [clock[:2] for clock in other.clocks]:
        return "clocks"
    return None


def _settings(custom, kind):
    """All (room, seats, deed) of this kind that can be told apart; at a year's end there is no deed."""
    found = []
    for seats in seatings(len(custom.seats)):
        deeds = [None]
        if kind != YEAR:
            deeds = kind_deeds(kind, custom.kinds.arity_of(kind), sitters(seats))
        found.extend([(room, seats, deed) for room in custom.rooms for deed in deeds])
    return found


def _fits_but_clocks(move, room, view):
    """Whether all tests of the move hold that ask for no clock."""
    return all_hold([test for test in move.tests if test[0] != CLOCK], room, view, ())


def _box_of(custom, move):
    """The numbers of the clocks that the tests of the move let."""
    box = [(0, clock[1] + 1) for clock in custom.clocks]
    for sort, clock, number, wanted in move.tests:
        if sort == CLOCK:
            low, high = box[clock]
            box[clock] = (max(low, number), high) if wanted else (low, min(high, number))
    return box


def _numbers_in(box, blocks):
    """Numbers, one for each clock, that lie in the box and in none of the blocks, or None.

    If there are any, there are some of which no single one can be made less: then each is the
    low bound of the box or the high bound of a block.
    """
    if not box:
        return None if blocks else ()
    low, high = box[0]
    for number in (low, *[block[0][1] for block in blocks]):
        if low <= number < high:
            met = [block[1:] for block in blocks if block[0][0] <= number < block[0][1]]
            rest = _numbers_in(box[1:], met)
            if rest is not None:
                return (number, *rest)
    return None


def _scene_of(custom, kind, move, earlier):
    """A scene in which the move fits and none of the earlier ones does, or None."""
    box = _box_of(custom, move)
    for room, seats, deed in _settings(custom, kind):
        view = view_of(seats, deed)
        if _fits_but_clocks(move, room, view):
            blocks = [_box_of(custom, other) for other in earlier if _fits_but_clocks(other, room, view)]
            numbers = _numbers_in(box, blocks)
            if numbers is not None:
                return _scene_at(room, seats, numbers, None, deed)
    return None


def _scene_at(room, seats, numbers, running, deed):
    """The scene in which all clocks are halted but the one with this index, if it is not None.

    Conditions do not ask whether a clock runs; a halted one may show 0 in a ticked stand, too.
    """
    clocks = [(number, index == running) for index, number in enumerate(numbers)]
    return Scene(Stand(room, seats, clocks), deed)


def _differing_at(one, other, kind):
    """A scene of this kind in which the customs lead to unlike stands, or None."""
    known = {}
    for room, seats, deed in _settings(one, kind):
        view = view_of(seats, deed)
        firsts = [move for move in one.moves[kind] if _fits_but_clocks(move, room, view)]
        seconds = [move for move in other.moves[kind] if _fits_but_clocks(move, room, view)]
        key = (tuple([move.index for move in firsts]), tuple([move.index for move in seconds]))
        if key not in known:
            known[key] = _meetings(one, firsts, seconds)
        for meeting in known[key]:
            for box, running in _parting_boxes(meeting, room, view, kind == YEAR):
                numbers = _numbers_in(box, meeting[3])
                if numbers is not None:
                    return _scene_at(room, seats, numbers, running, deed)
    return None


def _meetings(custom, firsts, seconds):
    """All (move, move, box, blocks) of a first and a second one that can act at the same numbers.

    The box is that of both; the blocks are those of the earlier moves, which would act before.
    """
    idle = idle_move(custom.seats, [clock[0] for clock in custom.clocks])
    found = []
    for place, first in enumerate([*firsts, idle]):
        for at, second in enumerate([*seconds, idle]):
            box = _common_box(_box_of(custom, first), _box_of(custom, second))
            blocks = [_box_of(custom, move) for move in [*firsts[:place], *seconds[:at]]]
            if _numbers_in(box, blocks) is not None:
                found.append((first, second, box, blocks))
    return found


def _common_box(one, other):
    return [(max(low, least), min(high, most)) for (low, high), (least, most) in zip(one, other)]


def _parting_boxes(meeting, room, view, at_end):
    """All pairs (box, running) within which the two moves of a meeting lead to unlike stands.

    The running clock is given by its index; None tells that all clocks are to be halted.
    """
    first, second, box, _ = meeting
    if _plain_outcome(first, room, view) != _plain_outcome(second, room, view):
        return [(box, None)]
    found = []
    for clock in range(len(box)):
        (zero, runs), (other_zero, other_runs) = first.settings[clock], second.settings[clock]
        if zero != other_zero:
            found.append((_at_least_one(box, clock), None))
        if runs != other_runs:
            # A clock that runs already is parted only by a move that halts it. At a year's end
            # it has gone up.
            running = False in (runs, other_runs) and None in (runs, other_runs)
            risen = _at_least_one(box, clock) if running and at_end else box
            found.append((risen, clock if running else None))
    return found


def _plain_outcome(move, room, view):
    return (room if move.room is None else move.room, [view[place] for place in move.sources])


def _at_least_one(box, clock):
    """The part of the box in which this clock does not show 0."""
    low, high = box[clock]
    return [*box[:clock], (max(low, 1), high), *box[clock + 1:]]
