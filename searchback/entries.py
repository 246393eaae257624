"""Entries: what is known of one year's deeds."""

from searchback.errors import BadEntry
from searchback.labels import is_label, is_sequence


class Entry:
    """The base of the entries, of which callers make no object."""

    def __init__(self):
        self.told = ()
        self.names = ()

    def lets(self, kinds, year):
        """Whether the year's deeds can be made of the told ones by putting in deeds of free kinds.

        A deed that is told next is taken as this one at once: if it were put in, a later one
        of its kind, which is free then, would be told, and this one could be put in for that.
        """
        free = self.free(kinds)
        place = 0
        for deed in year:
            if place < len(self.told) and tuple(deed) == self.told[place]:
                place += 1
            elif deed[0] not in free:
                return False
        return place == len(self.told)


class Known(Entry):
    """The deeds are known."""

    def __init__(self, deeds):
        self.told = _told_deeds(deeds)
        self.names = ()

    def __eq__(self, other):
        return isinstance(other, Known) and self.told == other.told

    def free(self, kinds):
        """No kind."""
        return ()


class Without(Entry):
    """There is no deed of the named kinds; all else may be."""

    def __init__(self, names):
        self.told = ()
        self.names = _kind_names(names)

    def __eq__(self, other):
        return isinstance(other, Without) and self.names == other.names

    def free(self, kinds):
        """All kinds but the named ones."""
        return _others(kinds, self.names)


class Unknown(Entry):
    """Nothing is known."""

    def __init__(self):
        self.told = ()
        self.names = ()

    def __eq__(self, other):
        return isinstance(other, Unknown)

    def free(self, kinds):
        """All kinds."""
        return kinds.names


class Noted(Entry):
    """The deeds of the named kinds are known; all other kinds may be."""

    def __init__(self, names, deeds):
        self.names = _kind_names(names)
        self.told = _told_deeds(deeds)

    def __eq__(self, other):
        return isinstance(other, Noted) and self.names == other.names and self.told == other.told

    def free(self, kinds):
        """All kinds but the named ones."""
        return _others(kinds, self.names)


class Holding(Entry):
    """These deeds are among the year's deeds; all else may be."""

    def __init__(self, deeds):
        self.told = _told_deeds(deeds)
        self.names = ()

    def __eq__(self, other):
        return isinstance(other, Holding) and self.told == other.told

    def free(self, kinds):
        """All kinds."""
        return kinds.names


def entry_within(kinds, one, other):
    """Whether the other entry lets every year that this one lets."""
    free = other.free(kinds)
    return all([name in free for name in one.free(kinds)]) and other.lets(kinds, one.told)


def _kind_names(names):
    """The names as a tuple; refused unless they are labels, each once."""
    if not is_sequence(names):
        raise BadEntry("names")
    for index, name in enumerate(names):
        if not is_label(name) or name in names[:index]:
            raise BadEntry("names")
    return tuple(names)


def _told_deeds(deeds):
    """The deeds as tuples; their items are not looked at."""
    if not is_sequence(deeds) or not all([is_sequence(deed) for deed in deeds]):
        raise BadEntry("deeds")
    return tuple([tuple(deed) for deed in deeds])


def _others(kinds, names):
    return tuple([name for name in kinds.names if name not in names])
