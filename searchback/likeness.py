"""Likenesses: which persons of two stands are the same."""

from math import comb, perm

from searchback.checks import check_size, check_stand
from searchback.errors import BadIndex, BadLikeness, NoStand
from searchback.labels import fresh_labels, is_sequence, is_whole
from searchback.patterns import plain_stand
from searchback.stands import coming_stands

MOST_PERSONS = 40


class Likeness:
    """How many persons two stands have, and pairs (i, j) of persons who are the same."""

    def __init__(self, first, second, links):
        _check_sizes(first, second)
        if not is_sequence(links):
            raise BadLikeness("links")
        seconds = {}
        for link in links:
            if not _is_link(link, first, second):
                raise BadLikeness("link")
            if link[0] in seconds or link[1] in list(seconds.values()):
                raise BadLikeness("double")
            seconds[link[0]] = link[1]
        self.first = first
        self.second = second
        self.links = tuple(sorted(list(seconds.items())))

    def __eq__(self, other):
        if not isinstance(other, Likeness) or self.first != other.first:
            return False
        return self.second == other.second and self.links == other.links

    def __len__(self):
        return len(self.links)

    def __iter__(self):
        return iter(self.links)

    @property
    def is_full(self):
        """Whether every person of both stands is linked."""
        return self.first == len(self.links) and self.second == len(self.links)

    def partner(self, number):
        """The person of the second stand who is this person of the first one, or None."""
        if not is_whole(number, 0, self.first - 1):
            raise BadIndex(number)
        for one, other in self.links:
            if one == number:
                return other
        return None

    def flipped(self):
        """The likeness with both stands exchanged."""
        return Likeness(self.second, self.first, [(other, one) for one, other in self.links])

    def then(self, other):
        """The likeness of this first stand and the other's second one, through the one between."""
        if not isinstance(other, Likeness) or other.first != self.second:
            raise BadLikeness("sizes")
        onward = {middle: last for middle, last in other.links}
        links = [(one, onward[middle]) for one, middle in self.links if middle in onward]
        return Likeness(self.first, other.second, links)


def likenesses(first, second):
    """All likenesses with these numbers of persons, in order."""
    _check_sizes(first, second)
    for many in range(min(first, second) + 1):
        for links in link_rows(first, second, many, ()):
            yield Likeness(first, second, links)


def link_rows(first, second, many, links):
    """All rows of so many more links behind these ones, ascending."""
    if many == 0:
        yield links
        return
    left = many - 1
    least = links[-1][0] + 1 if links else 0
    taken = [link[1] for link in links]
    for one in range(least, first - left):
        for other in range(second):
            if other not in taken:
                row = (*links, (one, other))
                for whole in link_rows(first, second, left, row):
                    yield whole


def likeness_count(first, second, *, linked=None):
    """The number of likenesses with these numbers of persons; with so many links, if this is given."""
    _check_sizes(first, second)
    if linked is not None:
        if not is_whole(linked, 0, MOST_PERSONS):
            raise BadLikeness("linked")
        return _count_linked(first, second, linked)
    return sum([_count_linked(first, second, many) for many in range(min(first, second) + 1)])


def likeness_index(likeness):
    """The number of likenesses that come ahead of this one."""
    first, second = likeness.first, likeness.second
    index = sum([_count_linked(first, second, many) for many in range(len(likeness))])
    ahead = -1
    taken = []
    for place, (one, other) in enumerate(likeness.links):
        left = len(likeness) - place - 1
        free = second - place
        for skipped in range(ahead + 1, one):
            index += free * _count_behind(first, skipped, free, left)
        lesser = other - len([number for number in taken if number < other])
        index += lesser * _count_behind(first, one, free, left)
        ahead = one
        taken.append(other)
    return index


def likeness_at(first, second, index):
    """The likeness of this index."""
    if not is_whole(index, 0, likeness_count(first, second) - 1):
        raise BadIndex(index)
    many = 0
    while index >= _count_linked(first, second, many):
        index -= _count_linked(first, second, many)
        many += 1
    links = []
    one = 0
    free = list(range(second))
    while len(links) < many:
        behind = _count_behind(first, one, len(free), many - len(links) - 1)
        if index < len(free) * behind:
            place, index = divmod(index, behind)
            links.append((one, free.pop(place)))
        else:
            index -= len(free) * behind
        one += 1
    return Likeness(first, second, links)


def likeness_of(one, other):
    """The likeness of two stands by their names."""
    links = [
        (first, second)
        for first, person in enumerate(one.persons)
        for second, partner in enumerate(other.persons) if person == partner
    ]
    return Likeness(len(one.persons), len(other.persons), links)


def joined_stands(one, other, likeness):
    """The plain stand of one, and the other one renamed so that both have this likeness."""
    if not isinstance(likeness, Likeness):
        raise BadLikeness("likeness")
    if likeness.first != len(one.persons) or likeness.second != len(other.persons):
        raise BadLikeness("sizes")
    plain = plain_stand(one)
    labels = {second: plain.persons[first] for first, second in likeness.links}
    others = [number for number in range(likeness.second) if number not in labels]
    for number, label in zip(others, fresh_labels(plain.persons, len(others))):
        labels[number] = label
    names = {person: labels[number] for number, person in enumerate(other.persons)}
    return (plain, other.renamed(names))


def together(custom, one, other, likeness):
    """Two histories that end in the two joined stands."""
    check_stand(custom, one)
    check_stand(custom, other)
    check_size(custom)
    coming = coming_stands(custom)
    if not coming.is_end(one) or not coming.is_end(other):
        raise NoStand()
    first, second = joined_stands(one, other, likeness)
    return (coming.history_to(first), coming.history_to(second))


def _check_sizes(first, second):
    if not is_whole(first, 0, MOST_PERSONS):
        raise BadLikeness("first")
    if not is_whole(second, 0, MOST_PERSONS):
        raise BadLikeness("second")


def _is_link(link, first, second):
    if not is_sequence(link) or len(link) != 2:
        return False
    return is_whole(link[0], 0, first - 1) and is_whole(link[1], 0, second - 1)


def _count_linked(first, second, many):
    """How many likenesses have so many links."""
    return comb(first, many) * perm(second, many)


def _count_behind(first, one, free, left):
    """How many rows of links are left behind a link of this person, of as many free partners."""
    return comb(first - one - 1, left) * perm(free - 1, left)
