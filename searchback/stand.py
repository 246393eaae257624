"""How a thing stands at a moment."""

from searchback.errors import BadMap, BadStand
from searchback.histories import map_fault
from searchback.labels import is_label, is_sequence, is_whole
from searchback.shapes import sitters

MOST_SEATS = 3
MOST_CLOCKS = 2
GREATEST_NUMBER = 40


class Stand:
    """A room, who sits in the seats, and what the clocks show."""

    def __init__(self, room, seats, clocks=()):
        if not is_label(room):
            raise BadStand("room")
        if not is_sequence(seats) or not 1 <= len(seats) <= MOST_SEATS:
            raise BadStand("seats")
        for person in seats:
            if person is not None and not is_label(person):
                raise BadStand("person")
        if not is_sequence(clocks) or len(clocks) > MOST_CLOCKS:
            raise BadStand("clocks")
        for clock in clocks:
            word = _clock_fault(clock)
            if word is not None:
                raise BadStand(word)
        self.room = room
        self.seats = tuple(seats)
        self.clocks = tuple([tuple(clock) for clock in clocks])

    def __eq__(self, other):
        return isinstance(other, Stand) and self.code == other.code

    @property
    def code(self):
        """The room, the seats and the clocks as one tuple."""
        return (self.room, self.seats, self.clocks)

    @property
    def persons(self):
        """Those who sit, each once, in the order of their first seats."""
        return sitters(self.seats)

    def renamed(self, names):
        """The stand with each person replaced by what it leads to."""
        word = map_fault(names, self.persons)
        if word is not None:
            raise BadMap(word)
        seats = [None if person is None else names[person] for person in self.seats]
        return Stand(self.room, seats, self.clocks)


def _clock_fault(clock):
    """The word for why this is not what a clock shows, or None."""
    if not is_sequence(clock) or len(clock) != 2:
        return "clock"
    number, running = clock
    if not is_whole(number, 0, GREATEST_NUMBER):
        return "number"
    if not isinstance(running, bool):
        return "running"
    return None
