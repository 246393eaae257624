"""Heights: how many year's ends are left behind which a pair of stands can be unlike."""

from searchback.checks import check_asking
from searchback.errors import BadHeights, NoPair
from searchback.labels import is_count, is_sequence
from searchback.pairgraph import PairGraph
from searchback.pairs import Pair, check_pairs
from searchback.shapes import placed
from searchback.stands import coming_stands


class Heights:
    """A table of plain pairs of unequal stands, each with its height."""

    def __init__(self, rows):
        if not is_sequence(rows):
            raise BadHeights(0, "rows")
        self.table = {}
        for index, row in enumerate(rows):
            word = _row_fault(row, self.table)
            if word is not None:
                raise BadHeights(index, word)
            self.table[_key_of(row[0])] = row[1]
        self.rows = tuple([tuple(row) for row in rows])

    def __len__(self):
        return len(self.rows)

    def __iter__(self):
        return iter(self.rows)

    @property
    def most(self):
        """The greatest height, 0 if there are no rows."""
        return max([height for _, height in self.rows], default=0)

    def of(self, pair):
        """The height of a pair, with any names and in either order."""
        if pair.is_equal:
            return 0
        plain = pair.plain()
        for key in (_key_of(plain), _swapped_key(plain)):
            if key in self.table:
                return self.table[key]
        raise NoPair()


def heights_fault(custom, heights, question, *more, without=()):
    """None if the table shows how many years are enough, else the word for why not."""
    questions = (question, *more)
    check_asking(custom, questions, without)
    check_pairs(custom)
    return table_fault(PairGraph(custom, without, questions), heights)


def table_fault(graph, heights):
    """The word of a table for this graph, or None."""
    if not isinstance(heights, Heights):
        return "heights"
    for pair, _ in heights.rows:
        if graph.custom.stand_fault(pair.one) is not None or graph.custom.stand_fault(pair.other) is not None:
            return "stand"
    table = {}
    for pair, height in heights.rows:
        table[graph.node_of(pair.one.code, pair.other.code)] = height
    if not all([node in table for node in beginning_nodes(graph)]):
        return "beginning"
    listed = list(table.items())
    for node, height in listed:
        if not all([to in table and table[to] <= height for to in graph.led(node)]):
            return "deed"
    for node, height in listed:
        if not _falls(graph, table, height, graph.ended(node)):
            return "end"
    return None


def beginning_nodes(graph):
    """For each node of a beginning pair the number of beginning pairs that are this node."""
    faces = {}
    for stand in coming_stands(graph.custom).ends:
        faces.setdefault(stand.seats, []).append((stand.room, stand.clocks))
    many = len(graph.custom.seats)
    found = {}
    for joint in graph.seatings:
        seats, others = joint[:many], joint[many:]
        for room, clocks in faces.get(seats, []):
            for other_room, other_clocks in faces.get(placed(others), []):
                node = graph.node_of((room, seats, clocks), (other_room, others, other_clocks))
                if node is not None:
                    found[node] = found.get(node, 0) + 1
    return found


def _falls(graph, table, height, to):
    """Whether this height is greater than that of the pair behind the year's end."""
    if to is None:
        return True
    if to not in table or (graph.is_unlike(to) and height == 0):
        return False
    return table[to] == 0 or height >= table[to] + 1


def _row_fault(row, table):
    """The word for why this is no row behind those of the table, or None."""
    if not is_sequence(row) or len(row) != 2:
        return "row"
    if not isinstance(row[0], Pair) or not is_count(row[1]):
        return "row"
    if not row[0].is_plain:
        return "plain"
    if row[0].is_equal:
        return "equal"
    if _key_of(row[0]) in table or _swapped_key(row[0]) in table:
        return "double"
    return None


def _key_of(pair):
    return (pair.one.code, pair.other.code)


def _swapped_key(pair):
    """The key of the swapped pair, made plain."""
    return _key_of(pair.swapped().plain())
