"""Pairs of stands that share their names."""

from searchback.checks import check_questions, check_size, check_stand
from searchback.customs import deed_step, end_step
from searchback.errors import BadDeed, BadMap, BadPair, TooMany
from searchback.histories import map_fault
from searchback.likeness import joined_stands, likenesses
from searchback.shapes import called, placed_names, sitters
from searchback.stand import Stand
from searchback.stands import coming_stands

MOST_PAIRS = 60000
# The plain rows of 0 to 6 seats.
JOINT_ROWS = (1, 2, 5, 15, 52, 203, 877)


class Pair:
    """Two stands of the same thing; a label that sits in both is the same person."""

    def __init__(self, one, other):
        if not isinstance(one, Stand):
            raise BadPair("one")
        if not isinstance(other, Stand):
            raise BadPair("other")
        self.one = one
        self.other = other

    def __eq__(self, other):
        return isinstance(other, Pair) and self.one == other.one and self.other == other.other

    @property
    def persons(self):
        """The persons of one, then those of other who do not sit in one."""
        return sitters((*self.one.seats, *self.other.seats))

    @property
    def is_equal(self):
        """Whether the two stands are equal."""
        return self.one == self.other

    @property
    def is_plain(self):
        """Whether the persons are called a, b, c and so on."""
        names = placed_names((*self.one.seats, *self.other.seats))
        return all([person == label for person, label in names.items()])

    def swapped(self):
        """The pair of other and one."""
        return Pair(self.other, self.one)

    def renamed(self, names):
        """The pair with both stands renamed."""
        word = map_fault(names, self.persons)
        if word is not None:
            raise BadMap(word)
        return Pair(_called_stand(self.one, names), _called_stand(self.other, names))

    def plain(self):
        """The plain pair that a renaming makes of this one."""
        names = placed_names((*self.one.seats, *self.other.seats))
        return Pair(_called_stand(self.one, names), _called_stand(self.other, names))


def most_pairs(one, other):
    """The number of plain pairs of a stand of one custom's shape and one of the other's."""
    return JOINT_ROWS[len(one.seats) + len(other.seats)] * _faces_of(one) * _faces_of(other)


def led_pair(custom, pair, deed):
    """The pair of the two stands behind the deed."""
    _check_pair(custom, pair)
    word = custom.kinds.fault(deed)
    if word is not None:
        raise BadDeed(word)
    one = deed_step(custom, pair.one.code, deed)[1]
    other = deed_step(custom, pair.other.code, deed)[1]
    return Pair(Stand(*one), Stand(*other))


def ended_pair(custom, pair):
    """The pair of the two stands behind the year's end."""
    _check_pair(custom, pair)
    one = end_step(custom, pair.one.code)[1]
    other = end_step(custom, pair.other.code)[1]
    return Pair(Stand(*one), Stand(*other))


def is_unlike(custom, pair, question, *more):
    """Whether one of the questions, at least, has unlike answers in the two stands."""
    check_questions(custom, (question, *more))
    _check_pair(custom, pair)
    return codes_unlike(custom, pair.one.code, pair.other.code, (question, *more))


def beginning_pairs(custom):
    """All plain pairs of two stands that come at year's ends, each once."""
    check_pairs(custom)
    ends = coming_stands(custom).ends
    for one in ends:
        first = len(one.persons)
        for other in ends:
            second = len(other.persons)
            for likeness in likenesses(first, second):
                stands = joined_stands(one, other, likeness)
                yield Pair(*stands)


def codes_unlike(custom, one, other, questions):
    """Whether one of the questions has unlike answers at two codes."""
    for question in questions:
        if question.read(custom, one) != question.read(custom, other):
            return True
    return False


def check_pairs(custom):
    """Raise TooMany if there are too many stands, or too many pairs of them, to go through."""
    check_size(custom)
    count = most_pairs(custom, custom)
    if count > MOST_PAIRS:
        raise TooMany(count)


def _faces_of(custom):
    """The number of plain stands, divided by that of the plain rows of seats."""
    return custom.most_stands // JOINT_ROWS[len(custom.seats)]


def _called_stand(stand, names):
    return Stand(stand.room, called(stand.seats, names), stand.clocks)


def _check_pair(custom, pair):
    check_stand(custom, pair.one)
    check_stand(custom, pair.other)
