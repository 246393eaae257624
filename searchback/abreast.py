"""Two customs led on side by side from their starts, year by year."""

from searchback.histories import history_of
from searchback.joint import played, rows_back


class Abreast:
    """All nodes that come, up to the first year's end at which they part.

    `moments` has for each node that comes the one ahead of it, and whether a year's end led on;
    `ends` has for each node that comes at a year's end the one ahead of that end. `parting` is a
    node at the first year's end at which two customs part, `years` the number of years there;
    both are None if they never do. If `covers` is True, they part where somebody sits under the
    second custom who does not sit there under the first one; else where the answers are unlike.
    """

    def __init__(self, joint, questions, covers):
        self.joint = joint
        self.questions = questions
        self.covers = covers
        self.start = joint.node_of(joint.one.start.code, joint.other.start.code)
        self.moments = {self.start: None}
        self.ends = {self.start: None}
        self.parting = None
        self.years = None
        new = [self.start]
        years = 0
        while new and self.parting is None:
            parted = [node for node in new if self._is_parted(node)]
            if parted:
                self.parting = parted[0]
                self.years = years
            else:
                new = self._year_behind(new)
                years += 1

    def pairs(self, nodes):
        """The plain pairs of these nodes."""
        return tuple([self.joint.pair_of(node) for node in nodes])

    def led_to_parting(self):
        """A history behind which the customs part, and the codes of both there."""
        ahead = self.ends[self.parting]
        rows = [] if ahead is None else rows_back(self.moments, ahead)
        years, one, other = played(self.joint, self.joint.one.start.code, self.joint.other.start.code, rows)
        return (history_of(self.joint.one.kinds, years), one, other)

    def _is_parted(self, node):
        one, other = self.joint.codes_of(node)
        return parted_question(self.joint, one, other, self.questions, self.covers) is not None

    def _year_behind(self, new):
        """The ends that come first one year behind these ends."""
        # An end that came amid a year before has been gone on from then.
        waiting = [node for node in new if self.moments[node] is None or self.moments[node][1]]
        at = 0
        while at < len(waiting):
            node = waiting[at]
            at += 1
            # A list of its own, since the loop changes what this object holds.
            for to in list(self.joint.led(node)):
                if to not in self.moments:
                    self.moments[to] = (node, False)
                    waiting.append(to)
        found = []
        for node in waiting:
            end = self.joint.ended(node)
            if end not in self.ends:
                self.ends[end] = node
                found.append(end)
            if end not in self.moments:
                self.moments[end] = (node, True)
        return found


def parted_question(joint, one, other, questions, covers):
    """The first question in which two customs part at these codes at a year's end, or None."""
    for question in questions:
        first = question.read(joint.one, one)
        second = question.read(joint.other, other)
        if first != second and not (covers and second is None):
            return question
    return None
