"""All pairs of stands of a custom that can be told apart, and which of them lead to which.

A pair and its swapped one lead on alike, so both are one node. Pairs of equal stands stay equal
for ever and have no node.
"""

from searchback.joint import Joint
from searchback.pairs import codes_unlike
from searchback.shapes import placed


class PairGraph(Joint):
    """The nodes of a custom, where the deeds are let whose kinds are not in `without`."""

    def __init__(self, custom, without, questions):
        super().__init__(custom, custom, [row for row in custom.kinds.rows if row[0] not in without])
        self.custom = custom
        self.questions = questions
        many = len(custom.seats)
        self.swaps = [self.places[placed((*seats[many:], *seats[:many]))] for seats in self.seatings]
        self.known_unlike = {}

    def node_at(self, first, second, seats, others):
        """The node of two faces and the seats of both, or None if the stands are equal."""
        if first == second and seats == others:
            return None
        joint = (*seats, *others)
        if joint not in self.places:
            self.places[joint] = self.places[placed(joint)]
        row = self.places[joint]
        faces = len(self.faces.rows)
        node = (first * faces + second) * len(self.seatings) + row
        return min(node, (second * faces + first) * len(self.seatings) + self.swaps[row])

    def is_unlike(self, node):
        """Whether one of the questions has unlike answers in the two stands."""
        if node not in self.known_unlike:
            one, other = self.codes_of(node)
            self.known_unlike[node] = codes_unlike(self.custom, one, other, self.questions)
        return self.known_unlike[node]
