"""The kinds of deeds."""

from searchback.errors import BadKinds, NoKind
from searchback.labels import is_label, is_sequence, is_whole

MOST_KINDS = 6
MOST_ARITY = 2
YEAR = "year"


class Kinds:
    """The names of the kinds of deeds, each with the number of persons of its deeds."""

    def __init__(self, rows):
        if not is_sequence(rows) or not 1 <= len(rows) <= MOST_KINDS:
            raise BadKinds(0, "rows")
        arities = {}
        for index, row in enumerate(rows):
            word = _row_fault(row, arities)
            if word is not None:
                raise BadKinds(index, word)
            arities[row[0]] = row[1]
        self.rows = tuple([(name, arity) for name, arity in arities.items()])
        self.names = tuple(arities)
        self._arities = arities

    def __eq__(self, other):
        return isinstance(other, Kinds) and self.rows == other.rows

    def __len__(self):
        return len(self.rows)

    def __iter__(self):
        return iter(self.names)

    def __contains__(self, thing):
        return isinstance(thing, str) and thing in self._arities

    def arity_of(self, name):
        """The number of persons of a deed of this kind."""
        if name not in self:
            raise NoKind(name)
        return self._arities[name]

    def fault(self, deed):
        """None if the thing is a deed of these kinds, else the word for why it is none."""
        if not is_sequence(deed) or len(deed) == 0:
            return "deed"
        if deed[0] not in self:
            return "kind"
        if len(deed) != 1 + self._arities[deed[0]]:
            return "arity"
        for person in deed[1:]:
            if not is_label(person):
                return "person"
        return None


def _row_fault(row, arities):
    """The word for why the row cannot follow the kinds that were read so far, or None."""
    if not is_sequence(row) or len(row) != 2:
        return "row"
    name, arity = row
    if not is_label(name):
        return "label"
    if name == YEAR:
        return "year"
    if name in arities:
        return "double"
    if not is_whole(arity, 0, MOST_ARITY):
        return "arity"
    return None
