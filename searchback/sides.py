"""All marked stands of a custom for one person, and where its own deeds and those of others lead.

Stands have numbers, and lots of stands are whole numbers, as in a frame.
"""

from searchback.customs import deed_step
from searchback.frame import Frame, all_from, lot_of, numbers_in, path_into
from searchback.moves import view_of
from searchback.rounds import is_own
from searchback.shapes import kind_deeds, sitters


class Sides:
    """The ways of the person and of all others through the marked stands.

    `others_ways` and `own_ways` have for each stand the lot of those to which one deed leads.
    """

    def __init__(self, custom, person):
        self.custom = custom
        self.person = person
        self.frame = Frame(custom, (person,))
        self.everywhere = (1 << self.frame.many) - 1
        self.others_ways = [0 for _ in range(self.frame.many)]
        self.others_back = [0 for _ in range(self.frame.many)]
        self.own_ways = [0 for _ in range(self.frame.many)]
        self.own_back = [0 for _ in range(self.frame.many)]
        self.ends_back = [0 for _ in range(self.frame.many)]
        self._find_ways()
        self.known_ends = {}
        self.known_unsaved = {}
        self.known_own = {}

    def number_of(self, stand):
        """The number of the marked stand of a stand."""
        return self.frame.number_of(stand.code)

    def is_seated(self, code, seat):
        """Whether the person sits in the seat at this code."""
        return code[1][self.custom.seats.index(seat)] == self.person

    def seat_lot(self, seat):
        """The lot of the stands in which the person sits in the seat."""
        numbers = range(self.frame.many)
        return lot_of([number for number in numbers if self.is_seated(self.frame.stand_of(number).code, seat)])

    def forced(self, lot):
        """The lot of the stands from which others can come into the lot by their deeds, or by none."""
        return all_from(self.others_back, lot)

    def ending(self, lot):
        """The lot of the stands behind which the year's end leads into the lot."""
        if lot not in self.known_ends:
            found = 0
            for number in numbers_in(lot):
                found = found | self.ends_back[number]
            self.known_ends[lot] = found
        return self.known_ends[lot]

    def unsaved(self, lot):
        """The lot of the stands from which each own row, and the year's end, leads into the lot."""
        if lot not in self.known_unsaved:
            saved = all_from(self.own_back, self.ending(self.everywhere & ~lot))
            self.known_unsaved[lot] = self.everywhere & ~saved
        return self.known_unsaved[lot]

    def own_ends(self, number):
        """The numbers of the stands to which the own rows, and the year's end, lead from a stand."""
        if number not in self.known_own:
            reached = all_from(self.own_ways, 1 << number)
            self.known_own[number] = tuple(numbers_in(self.frame.ended(reached)))
        return self.known_own[number]

    def others_row(self, number, goals):
        """A row of deeds of others that leads into the goals, and the number behind it."""
        path = path_into(self.others_ways, 1 << number, goals)
        return (self._deeds_along(path, False), path[-1])

    def own_row(self, number, goals):
        """A row of own deeds that leads into the goals, and the number behind it."""
        path = path_into(self.own_ways, 1 << number, goals)
        return (self._deeds_along(path, True), path[-1])

    def _find_ways(self):
        for row, seats in enumerate(self.frame.seatings):
            for deed in self._deeds_at(seats):
                self._add_ways(row, seats, deed)
        for number in range(self.frame.many):
            end = self.frame.end_of(number)
            self.ends_back[end] = self.ends_back[end] | (1 << number)

    def _deeds_at(self, seats):
        """The deeds that can be told apart where these persons sit."""
        persons = (self.person, *[other for other in sitters(seats) if other != self.person])
        return [deed for name, arity in self.custom.kinds.rows for deed in kind_deeds(name, arity, persons)]

    def _add_ways(self, row, seats, deed):
        """Put in what the deed leads to from the stands with these seats."""
        own = is_own(deed, self.person)
        ways = self.own_ways if own else self.others_ways
        back = self.own_back if own else self.others_back
        view = view_of(seats, deed)
        # A list of its own, since the loop changes what this object holds.
        for face, (to, places) in list(enumerate(self.frame.faces.outcomes(deed[0], view))):
            number = self.frame.number_at(row, face)
            seating = self.frame.seating_of(tuple([view[place] for place in places]))
            behind = self.frame.number_at(seating, to)
            ways[number] = ways[number] | (1 << behind)
            back[behind] = back[behind] | (1 << number)

    def _deeds_along(self, path, own):
        """The deeds of one side that lead from the first number of the path to each next one."""
        code = self.frame.stand_of(path[0]).code
        deeds = []
        for goal in path[1:]:
            deed = self._deed_to(code, goal, own)
            deeds.append(deed)
            code = deed_step(self.custom, code, deed)[1]
        return tuple(deeds)

    def _deed_to(self, code, goal, own):
        for deed in self._deeds_at(code[1]):
            if is_own(deed, self.person) == own:
                if self.frame.number_of(deed_step(self.custom, code, deed)[1]) == goal:
                    return deed
        return None
