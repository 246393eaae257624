"""Rounds: one person plays against all others."""

from searchback.checks import check_person, check_size, check_stand
from searchback.errors import BadRound, BadStand
from searchback.labels import is_sequence
from searchback.patterns import deeds_over
from searchback.shapes import clock_rows, placed, seatings
from searchback.stand import Stand
from searchback.walks import code_behind


def marked_stand(stand, person):
    """The stand in which the person keeps its label and all others have the first ones left."""
    if not isinstance(stand, Stand):
        raise BadStand("stand")
    check_person(person)
    return Stand(stand.room, placed(stand.seats, (person,)), stand.clocks)


def marked_stands(custom, person):
    """All marked stands of the custom's shape, in order."""
    check_person(person)
    check_size(custom)
    rows = seatings(len(custom.seats), (person,))
    readings = clock_rows(custom.clocks)
    return tuple([Stand(room, seats, clocks) for room in custom.rooms for seats in rows for clocks in readings])


def others_deeds(custom, stand, person):
    """The deeds of others that can be told apart in the stand."""
    return tuple([deed for deed in _all_deeds(custom, stand, person) if not is_own(deed, person)])


def own_deeds(custom, stand, person):
    """The person's own deeds that can be told apart in the stand."""
    return tuple([deed for deed in _all_deeds(custom, stand, person) if is_own(deed, person)])


def ends_of_rounds(custom, stand, person, rounds):
    """The stands at the ends of rounds that are played one behind another."""
    check_stand(custom, stand)
    check_person(person)
    if not is_sequence(rounds):
        raise BadRound(0, "rounds")
    for index, row in enumerate(rounds):
        word = _round_fault(custom, row, person)
        if word is not None:
            raise BadRound(index, word)
    code = stand.code
    ends = []
    for others, own in rounds:
        code = code_behind(custom, code, (*others, *(() if own is None else own)))
        ends.append(Stand(*code))
    return tuple(ends)


def is_own(deed, person):
    """Whether the person is the first person of the deed."""
    return len(deed) > 1 and deed[1] == person


def _all_deeds(custom, stand, person):
    check_stand(custom, stand)
    check_person(person)
    persons = (person, *[other for other in stand.persons if other != person])
    return [deed for deed in deeds_over(custom.kinds, persons)]


def _round_fault(custom, row, person):
    """The word for why this is no round, or None."""
    if not is_sequence(row) or len(row) != 2:
        return "round"
    others, own = row
    if not is_sequence(others) or not (own is None or is_sequence(own)):
        return "round"
    for deed in others:
        word = custom.kinds.fault(deed)
        if word is None and is_own(deed, person):
            word = "others"
        if word is not None:
            return word
    for deed in () if own is None else own:
        word = custom.kinds.fault(deed)
        if word is None and not is_own(deed, person):
            word = "own"
        if word is not None:
            return word
    return None
