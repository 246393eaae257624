"""The heights of all pairs that some pairs lead to.

A deed leads to a pair that is at most as high, a year's end to one that is lower. Pairs that lead
to each other by deeds alone have one height. If there is a year's end on a way round, the way can
be gone any number of times, and the height is ENDLESS where the pair can be unlike afterwards.
"""

ENDLESS = 1000000000


class Climb:
    """Numbers the nodes in the order in which they are met and closes them ring by ring.

    The nodes that lead to each other are a lot; each lot is closed when all that it leads to is
    (the way of Tarjan), so that the heights are known from which its own one follows.
    `heights` has the closed nodes. `turn` is a node that lies behind a year's end in a lot of
    endless height, or None if there is no such lot.
    """

    def __init__(self, graph, roots):
        self.graph = graph
        self.roots = tuple(roots)
        self.heights = {}
        self.turn = None
        self.deed_ways = {}
        self.end_ways = {}
        self.numbers = {}
        self.lowest = {}
        self.at = {}
        self.places = {}
        self.trail = []
        self.waiting = []
        for root in self.roots:
            if root not in self.numbers:
                self._go_from(root)

    def years_of(self, node):
        """The years of the pair at a year's end: 0 if it is alike for ever, ENDLESS if there is no bound."""
        height = self.heights[node]
        if height == 0:
            return 1 if self.graph.is_unlike(node) else 0
        return min(height + 1, ENDLESS)

    def _go_from(self, root):
        self._enter(root)
        while self.trail:
            node = self.trail[-1]
            ways = self.deed_ways[node]
            place = self.at[node]
            self.at[node] = place + 1
            if place < len(ways):
                to = ways[place]
            elif place == len(ways) and self.end_ways[node] is not None:
                to = self.end_ways[node]
            else:
                self._leave(node)
                continue
            if to not in self.numbers:
                self._enter(to)
            elif to not in self.heights:
                self.lowest[node] = min(self.lowest[node], self.numbers[to])

    def _enter(self, node):
        self.deed_ways[node] = self.graph.led(node)
        self.end_ways[node] = self.graph.ended(node)
        self.numbers[node] = len(self.numbers)
        self.lowest[node] = self.numbers[node]
        self.at[node] = 0
        self.places[node] = len(self.waiting)
        self.trail.append(node)
        self.waiting.append(node)

    def _leave(self, node):
        """Go back from a node all of whose ways are gone."""
        self.trail.pop()
        if self.trail:
            ahead = self.trail[-1]
            self.lowest[ahead] = min(self.lowest[ahead], self.lowest[node])
        if self.lowest[node] == self.numbers[node]:
            lot = self.waiting[self.places[node]:]
            del self.waiting[self.places[node]:]
            self._close(lot)

    def _close(self, lot):
        """Give all nodes of a lot their height."""
        inside = {node: True for node in lot}
        height = 0
        turn = None
        for node in lot:
            height = max([height, *[self.heights[to] for to in self.deed_ways[node] if to not in inside]])
            to = self.end_ways[node]
            if to is not None:
                height = max(height, 1 if self.graph.is_unlike(to) else 0)
                if to in inside:
                    turn = to
                elif self.heights[to] > 0:
                    height = max(height, self.heights[to] + 1)
        if turn is not None and height > 0:
            height = ENDLESS
            self.turn = turn
        for node in lot:
            self.heights[node] = min(height, ENDLESS)
