"""What deeds and year's ends lead to, worked out for all rooms and clock readings at once.

A *face* is a room and what the clocks show. Which clause acts at a face hangs only on who is
whom among those who sit and the persons of the deed. So it is worked out once for each *pattern*
of a view, in which each entry is the place where the same person (or nobody) stands first.
"""

from searchback.customs import ticked_clocks
from searchback.kinds import YEAR
from searchback.moves import first_fitting, moved
from searchback.shapes import clock_rows


class Faces:
    """The faces of a custom, in order: by room, then by clocks."""

    def __init__(self, custom):
        self.custom = custom
        self.readings = clock_rows(custom.clocks)
        self.rows = [(room, clocks) for room in custom.rooms for clocks in self.readings]
        self.places = {face: place for place, face in enumerate(self.rows)}
        self.known = {}
        self.numbers = {}
        self.tables = []

    def outcomes(self, kind, view):
        """For each face a pair (face behind, places of the view from which the seats are filled).

        The kind may be that of the year's end.
        """
        pattern = tuple([view.index(person) for person in view])
        key = (kind, pattern)
        if key not in self.known:
            self.known[key] = tuple([self._outcome(kind, pattern, face) for face in self.rows])
        return self.known[key]

    def led(self, kind, view):
        """The number of a table that has for each face a pair (face behind, seats behind).

        Tables with equal rows have one number, so that deeds that lead alike can be told.
        """
        table = tuple([
            (face, tuple([view[place] for place in places]))
            for face, places in self.outcomes(kind, view)
        ])
        if table not in self.numbers:
            self.numbers[table] = len(self.tables)
            self.tables.append(table)
        return self.numbers[table]

    def _outcome(self, kind, pattern, face):
        room, clocks = face
        if kind == YEAR:
            clocks = ticked_clocks(self.custom, clocks)
        move = first_fitting(self.custom.moves[kind], room, pattern, clocks)
        seats = pattern[:len(self.custom.seats)]
        if move is not None:
            room, seats, clocks = moved(move, room, pattern, clocks)
        return (self.places[(room, clocks)], seats)
