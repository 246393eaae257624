"""All pairs of a stand of one custom and one of another that can be told apart, and which lead to which.

Each pair is one *node*: a whole number. A pair is known by the faces of its two stands and by its
seating: the plain row of the seats of both.
"""

from searchback.customs import deed_step, end_step
from searchback.faces import Faces
from searchback.kinds import YEAR
from searchback.moves import view_of
from searchback.pairs import Pair
from searchback.shapes import kind_deeds, placed, seatings, sitters
from searchback.stand import Stand


class Joint:
    """The nodes of two customs, where the deeds of some kinds are let: rows (name, arity)."""

    def __init__(self, one, other, kinds):
        self.one = one
        self.other = other
        self.kinds = kinds
        self.faces = Faces(one)
        self.other_faces = self.faces if one == other else Faces(other)
        self.seatings = seatings(len(one.seats) + len(other.seats))
        self.places = {seats: place for place, seats in enumerate(self.seatings)}
        self.tables = {}

    def node_of(self, one, other):
        """The node of two codes that share their names."""
        first = self.faces.places[(one[0], one[2])]
        return self.node_at(first, self.other_faces.places[(other[0], other[2])], one[1], other[1])

    def node_at(self, first, second, seats, others):
        """The node of two faces and the seats of both."""
        joint = (*seats, *others)
        if joint not in self.places:
            self.places[joint] = self.places[placed(joint)]
        return (first * len(self.other_faces.rows) + second) * len(self.seatings) + self.places[joint]

    def codes_of(self, node):
        """The codes of the stands of the plain pair of a node."""
        first, second, row = self._parts_of(node)
        many = len(self.one.seats)
        seats = self.seatings[row]
        (room, clocks), (other_room, other_clocks) = self.faces.rows[first], self.other_faces.rows[second]
        return ((room, seats[:many], clocks), (other_room, seats[many:], other_clocks))

    def pair_of(self, node):
        """The plain pair of a node."""
        one, other = self.codes_of(node)
        return Pair(Stand(*one), Stand(*other))

    def led(self, node):
        """The other nodes to which a deed leads."""
        first, second, row = self._parts_of(node)
        found = {}
        for one, other in self._tables_of(row, False):
            found[self._node_behind(one[first], other[second])] = True
        return tuple([to for to in found if to is not None and to != node])

    def ended(self, node):
        """The node behind the year's end."""
        first, second, row = self._parts_of(node)
        one, other = self._tables_of(row, True)[0]
        return self._node_behind(one[first], other[second])

    def deed_to(self, one, other, goal):
        """A deed that leads from two codes to the node."""
        persons = sitters((*one[1], *other[1]))
        for name, arity in self.kinds:
            for deed in kind_deeds(name, arity, persons):
                behind = deed_step(self.one, one, deed)[1]
                if self.node_of(behind, deed_step(self.other, other, deed)[1]) == goal:
                    return deed
        return None

    def _parts_of(self, node):
        """The two faces and the seating of a node."""
        faces, row = divmod(node, len(self.seatings))
        first, second = divmod(faces, len(self.other_faces.rows))
        return (first, second, row)

    def _tables_of(self, row, at_end):
        """All pairs of tables, of the faces of one and of other, that a deed can have with these seats.

        At the year's end there is just one.
        """
        key = (row, at_end)
        if key not in self.tables:
            seats = self.seatings[row]
            many = len(self.one.seats)
            deeds = [(YEAR, None)] if at_end else self._deeds_over(sitters(seats))
            found = {}
            for kind, deed in deeds:
                one = self.faces.led(kind, view_of(seats[:many], deed))
                found[(one, self.other_faces.led(kind, view_of(seats[many:], deed)))] = True
            self.tables[key] = [(self.faces.tables[one], self.other_faces.tables[other]) for one, other in found]
        return self.tables[key]

    def _deeds_over(self, persons):
        return [(name, deed) for name, arity in self.kinds for deed in kind_deeds(name, arity, persons)]

    def _node_behind(self, one, other):
        (first, seats), (second, others) = one, other
        return self.node_at(first, second, seats, others)


def rows_back(before, node):
    """The rows of the way on which each node has the one ahead, and whether a year's end led on.

    The rows are years, each with the nodes to which its deeds lead.
    """
    rows = [[]]
    while before[node] is not None:
        ahead, at_end = before[node]
        if at_end:
            rows.append([])
        else:
            rows[-1].append(node)
        node = ahead
    return [row[::-1] for row in rows[::-1]]


def played(graph, one, other, rows):
    """The years of the rows from these two codes on, and both codes behind them."""
    years = []
    for row in rows:
        deeds = []
        for node in row:
            deed = graph.deed_to(one, other, node)
            deeds.append(deed)
            one = deed_step(graph.one, one, deed)[1]
            other = deed_step(graph.other, other, deed)[1]
        one = end_step(graph.one, one)[1]
        other = end_step(graph.other, other)[1]
        years.append(tuple(deeds))
    return (tuple(years), one, other)
