"""Plain stands, their order, and the deeds that can be told apart."""

from searchback.checks import check_stand
from searchback.errors import BadIndex, BadPerson
from searchback.labels import is_label, is_whole
from searchback.shapes import clock_rows, kind_deeds, placed, placed_names, seatings
from searchback.stand import Stand


def plain_names(stand):
    """For each person of the stand, in the order of its persons, the plain name."""
    return placed_names(stand.seats)


def plain_stand(stand):
    """The stand with its persons called a, b, c in their order."""
    return Stand(stand.room, placed(stand.seats), stand.clocks)


def all_stands(custom):
    """Each plain stand of the custom's shape once, in the order of stands."""
    rows = seatings(len(custom.seats))
    readings = clock_rows(custom.clocks)
    for room in custom.rooms:
        for seats in rows:
            for clocks in readings:
                yield Stand(room, seats, clocks)


def stand_place(custom, stand):
    """How many plain stands come ahead of the plain stand of this one."""
    check_stand(custom, stand)
    rows = seatings(len(custom.seats))
    place = custom.rooms.index(stand.room) * len(rows) + rows.index(placed(stand.seats))
    for clock, (number, running) in zip(custom.clocks, stand.clocks):
        place = (place * (clock[1] + 1) + number) * 2 + (1 if running else 0)
    return place


def stand_at_place(custom, place):
    """The plain stand with this place."""
    if not is_whole(place, 0, custom.most_stands - 1):
        raise BadIndex(place)
    clocks = []
    for clock in custom.clocks[::-1]:
        place, running = divmod(place, 2)
        place, number = divmod(place, clock[1] + 1)
        clocks.append((number, running == 1))
    rows = seatings(len(custom.seats))
    room, row = divmod(place, len(rows))
    return Stand(custom.rooms[room], rows[row], clocks[::-1])


def deeds_over(kinds, persons):
    """The deeds by these persons and two strangers."""
    for index, person in enumerate(persons):
        if not is_label(person) or person in persons[:index]:
            raise BadPerson(person)
    for name, arity in kinds.rows:
        for deed in kind_deeds(name, arity, persons):
            yield deed
