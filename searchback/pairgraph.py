"""All pairs of stands of a custom that can be told apart, and which of them lead to which.

A pair and its swapped one lead on alike, so both are one *node*: a whole number. Pairs of equal
stands stay equal for ever and have no node. A pair is known by the faces of its two stands and by
its seating: the plain row of the seats of both.
"""

from searchback.customs import deed_step
from searchback.faces import Faces
from searchback.kinds import YEAR
from searchback.moves import view_of
from searchback.pairs import Pair, codes_unlike
from searchback.shapes import kind_deeds, placed, seatings, sitters
from searchback.stand import Stand


class PairGraph:
    """The nodes of a custom, where the deeds are let whose kinds are not in `without`."""

    def __init__(self, custom, without, questions):
        self.custom = custom
        self.questions = questions
        self.kinds = [row for row in custom.kinds.rows if row[0] not in without]
        self.faces = Faces(custom)
        self.seatings = seatings(2 * len(custom.seats))
        self.places = {seats: place for place, seats in enumerate(self.seatings)}
        many = len(custom.seats)
        self.swaps = [self.places[placed((*seats[many:], *seats[:many]))] for seats in self.seatings]
        self.tables = {}
        self.known_unlike = {}

    def node_of(self, one, other):
        """The node of two codes that share their names, or None if they are equal."""
        places = self.faces.places
        return self._node_at(places[(one[0], one[2])], places[(other[0], other[2])], one[1], other[1])

    def pair_of(self, node):
        """The plain pair of a node."""
        one, other = self.codes_of(node)
        return Pair(Stand(*one), Stand(*other))

    def codes_of(self, node):
        """The codes of the stands of the plain pair of a node."""
        first, second, row = self._parts_of(node)
        many = len(self.custom.seats)
        seats = self.seatings[row]
        (room, clocks), (other_room, other_clocks) = self.faces.rows[first], self.faces.rows[second]
        return ((room, seats[:many], clocks), (other_room, seats[many:], other_clocks))

    def is_unlike(self, node):
        """Whether one of the questions has unlike answers in the two stands."""
        if node not in self.known_unlike:
            one, other = self.codes_of(node)
            self.known_unlike[node] = codes_unlike(self.custom, one, other, self.questions)
        return self.known_unlike[node]

    def led(self, node):
        """The other nodes to which a deed leads."""
        first, second, row = self._parts_of(node)
        found = {}
        for one, other in self._tables_of(row, False):
            to = self._node_behind(one[first], other[second])
            if to is not None:
                found[to] = True
        return tuple([to for to in found if to != node])

    def ended(self, node):
        """The node behind the year's end, or None if the stands are equal there."""
        first, second, row = self._parts_of(node)
        one, other = self._tables_of(row, True)[0]
        return self._node_behind(one[first], other[second])

    def deed_to(self, one, other, goal):
        """A deed that leads from two codes to the node."""
        persons = sitters((*one[1], *other[1]))
        for name, arity in self.kinds:
            for deed in kind_deeds(name, arity, persons):
                behind = deed_step(self.custom, one, deed)[1]
                if self.node_of(behind, deed_step(self.custom, other, deed)[1]) == goal:
                    return deed
        return None

    def _parts_of(self, node):
        """The two faces and the seating of a node."""
        faces, row = divmod(node, len(self.seatings))
        first, second = divmod(faces, len(self.faces.rows))
        return (first, second, row)

    def _tables_of(self, row, at_end):
        """All pairs of tables, of the faces of one and of other, that a deed can have with these seats.

        At the year's end there is just one.
        """
        key = (row, at_end)
        if key not in self.tables:
            seats = self.seatings[row]
            many = len(self.custom.seats)
            deeds = [(YEAR, None)] if at_end else self._deeds_over(sitters(seats))
            found = {}
            for kind, deed in deeds:
                one = self.faces.led(kind, view_of(seats[:many], deed))
                found[(one, self.faces.led(kind, view_of(seats[many:], deed)))] = True
            self.tables[key] = [(self.faces.tables[one], self.faces.tables[other]) for one, other in found]
        return self.tables[key]

    def _deeds_over(self, persons):
        return [(name, deed) for name, arity in self.kinds for deed in kind_deeds(name, arity, persons)]

    def _node_behind(self, one, other):
        (first, seats), (second, others) = one, other
        return self._node_at(first, second, seats, others)

    def _node_at(self, first, second, seats, others):
        if first == second and seats == others:
            return None
        joint = (*seats, *others)
        if joint not in self.places:
            self.places[joint] = self.places[placed(joint)]
        row = self.places[joint]
        faces = len(self.faces.rows)
        node = (first * faces + second) * len(self.seatings) + row
        return min(node, (second * faces + first) * len(self.seatings) + self.swaps[row])
