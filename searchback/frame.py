"""All placed stands of a custom, for some named persons, and which of them lead to which.

A stand is known by its number: its place in the order by room, by seats and by clocks. If nobody
is named, this is the order of stands. A lot of stands is a whole number that has, for each of
them, the binary digit of its number, so that lots of thousands of stands are joined at once.
"""

from searchback.customs import deed_step, end_step
from searchback.faces import Faces
from searchback.labels import fresh_labels
from searchback.moves import view_of
from searchback.shapes import called, kind_deeds, placed, seatings, sitters
from searchback.stand import Stand


def numbers_in(lot):
    """The numbers of the stands in a lot, ascending."""
    digits = f"{lot:b}"
    return [place for place, digit in enumerate(digits[::-1]) if digit == "1"]


def lot_of(numbers):
    """The lot of the stands with these numbers."""
    lot = 0
    for number in numbers:
        lot = lot | (1 << number)
    return lot


def all_from(ways, lot):
    """The lot of all stands to which steps, or none, lead from the lot.

    Each stand has in its place the lot of those to which one step leads.
    """
    seen = lot
    new = lot
    while new > 0:
        found = 0
        for number in numbers_in(new):
            found = found | ways[number]
        new = found & ~seen
        seen = seen | new
    return seen


def path_into(ways, lot, goals):
    """The numbers on a shortest way by such steps from a stand of the lot to one of another lot, the goals."""
    before = {number: None for number in numbers_in(lot)}
    waiting = list(before)
    seen = lot
    at = 0
    while not (goals >> waiting[at]) & 1:
        number = waiting[at]
        at += 1
        new = ways[number] & ~seen
        seen = seen | new
        for to in numbers_in(new):
            before[to] = number
            waiting.append(to)
    found = []
    number = waiting[at]
    while number is not None:
        found.append(number)
        number = before[number]
    return found[::-1]


class Frame:
    """The placed stands of one custom for some named persons."""

    def __init__(self, custom, named=()):
        self.custom = custom
        self.named = named
        self.faces = Faces(custom)
        self.seatings = seatings(len(custom.seats), named)
        self.many = len(self.seatings) * len(self.faces.rows)
        self.places = {seats: place for place, seats in enumerate(self.seatings)}
        self.row_lots = {}
        self.kind_ways = {}
        self.ways = {}
        self.known_reached = {}
        self.known_years = {}
        self.known_deeds = {}
        self.stands = {}
        self.ends = []
        self.start = self.number_of(custom.start.code)

    def number_of(self, code):
        """The number of the placed stand of the stand with this code."""
        room, seats, clocks = code
        face = self.faces.places[(room, clocks)]
        return self.number_at(self.seating_of(seats), face)

    def number_at(self, row, face):
        """The number of the placed stand with this row of seats and this face."""
        room, clocks = divmod(face, len(self.faces.readings))
        return (room * len(self.seatings) + row) * len(self.faces.readings) + clocks

    def seating_of(self, seats):
        """The place of the placed row of these seats."""
        if seats not in self.places:
            self.places[seats] = self.places[placed(seats, self.named)]
        return self.places[seats]

    def stand_of(self, number):
        """The placed stand with this number."""
        if number not in self.stands:
            place, clocks = divmod(number, len(self.faces.readings))
            room, row = divmod(place, len(self.seatings))
            self.stands[number] = Stand(self.custom.rooms[room], self.seatings[row], self.faces.readings[clocks])
        return self.stands[number]

    def stands_in(self, lot):
        """The stands of a lot, in order."""
        return tuple([self.stand_of(number) for number in numbers_in(lot)])

    def end_of(self, number):
        """The number of the stand behind a year's end."""
        if not self.ends:
            self.ends = self._ends()
        return self.ends[number]

    def ended(self, lot):
        """The lot of the stands behind a year's end."""
        return lot_of([self.end_of(number) for number in numbers_in(lot)])

    def done(self, number, deed):
        """The number of the stand behind a deed of named persons alone."""
        key = (number, deed)
        if key not in self.known_deeds:
            self.known_deeds[key] = self.number_of(deed_step(self.custom, self.stand_of(number).code, deed)[1])
        return self.known_deeds[key]

    def reached(self, lot, kinds):
        """The lot of all stands to which any deeds of these kinds, or none, lead from the lot.

        What one stand of the lot leads to needs not be gone on with again.
        """
        found = 0
        left = lot
        while left > 0:
            number = (left & -left).bit_length() - 1
            key = (number, kinds)
            if key not in self.known_reached:
                self.known_reached[key] = all_from(self.ways_of(kinds), 1 << number)
            found = found | self.known_reached[key]
            left = left & ~found
        return found

    def path(self, lot, kinds, goal):
        """The numbers on a shortest way by deeds of these kinds from a stand of the lot to the goal."""
        return path_into(self.ways_of(kinds), lot, 1 << goal)

    def ways_of(self, kinds):
        """For each stand the lot of those to which one deed of these kinds leads."""
        if kinds not in self.ways:
            ways = [0 for _ in range(self.many)]
            for kind in kinds:
                ways = [one | other for one, other in zip(ways, self._ways_of_kind(kind))]
            self.ways[kinds] = ways
        return self.ways[kinds]

    def deed_to(self, code, kinds, goal):
        """A deed of one of these kinds that leads from the code to the stand numbered so."""
        others = [person for person in sitters(code[1]) if person not in self.named]
        persons = (*self.named, *others)
        for kind in kinds:
            for deed in kind_deeds(kind, self.custom.kinds.arity_of(kind), persons):
                if self.number_of(deed_step(self.custom, code, deed)[1]) == goal:
                    return deed
        return None

    def _ends(self):
        return [self.number_of(end_step(self.custom, self.stand_of(number).code)[1]) for number in range(self.many)]

    def _ways_of_kind(self, kind):
        if kind not in self.kind_ways:
            ways = [0 for _ in range(self.many)]
            for row, seats in enumerate(self.seatings):
                self._add_ways(ways, row, seats, kind)
            self.kind_ways[kind] = ways
        return self.kind_ways[kind]

    def _add_ways(self, ways, row, seats, kind):
        """Put in what a deed of the kind leads to from the stands with these seats."""
        seated = sitters(seats)
        strangers = fresh_labels(seated, 2)
        for deed in kind_deeds(kind, self.custom.kinds.arity_of(kind), seated):
            view = view_of(seats, deed)
            for face, (to, places) in enumerate(self.faces.outcomes(kind, view)):
                behind = tuple([view[place] for place in places])
                number = self.number_at(row, face)
                lot = self._rows_lot(behind, seats, strangers)
                ways[number] = ways[number] | (lot << self.number_at(0, to))

    def _rows_lot(self, behind, seats, strangers):
        """The lot, at the first face, of these seats with anybody in the place of the strangers.

        Anybody is who does not sit in the seats ahead: a named person or some other.
        """
        key = (behind, seats)
        if key not in self.row_lots:
            seated = sitters(seats)
            unseated = [person for person in self.named if person not in seated]
            others = fresh_labels((*self.named, *seated), 2)
            firsts = (*unseated, others[0]) if strangers[0] in behind else (others[0],)
            seconds = (*unseated, *others) if strangers[1] in behind else (others[1],)
            both = [(first, second) for first in firsts for second in seconds if first != second]
            names = {person: person for person in seated}
            lot = 0
            for first, second in both:
                row = self.seating_of(called(behind, {**names, strangers[0]: first, strangers[1]: second}))
                lot = lot | (1 << self.number_at(row, 0))
            self.row_lots[key] = lot
        return self.row_lots[key]
