"""Histories: rows of years, which are rows of deeds."""

from searchback.errors import BadHistory, BadMap, BadYears, OtherKinds
from searchback.kinds import Kinds
from searchback.labels import is_label, is_sequence, is_whole

MOST_YEARS = 1000000
MOST_DEEDS = 1000000


def map_fault(names, persons):
    """None if names is a one to one renaming of the persons, else the word for why not."""
    if not isinstance(names, dict):
        return "map"
    for person in persons:
        if person not in names:
            return "person"
    for person in persons:
        if not is_label(names[person]):
            return "label"
    if len(set([names[person] for person in persons])) < len(persons):
        return "merged"
    return None


class History:
    """The years of a thing, the earliest first, each with its deeds in order."""

    def __init__(self, kinds, years=()):
        if not isinstance(kinds, Kinds):
            raise BadHistory(0, 0, "kinds")
        if not is_sequence(years):
            raise BadHistory(0, 0, "years")
        if _is_too_long(years):
            raise BadHistory(0, 0, "many")
        self.kinds = kinds
        self.years = tuple([_year_of(kinds, index, year) for index, year in enumerate(years)])

    def __eq__(self, other):
        return isinstance(other, History) and self.kinds == other.kinds and self.years == other.years

    def __len__(self):
        return len(self.years)

    def __iter__(self):
        return iter(self.years)

    @classmethod
    def from_years(cls, kinds, *years):
        """The history of these years."""
        return cls(kinds, years)

    @property
    def persons(self):
        """Each person once, in the order in which they are named first."""
        found = {}
        for year in self.years:
            for deed in year:
                for person in deed[1:]:
                    found[person] = True
        return tuple(found)

    @property
    def deed_count(self):
        """The number of deeds of all years."""
        return sum([len(year) for year in self.years])

    def first(self, years):
        """The history of the first so many years."""
        if not is_whole(years, 0, len(self)):
            raise BadYears(years)
        return history_of(self.kinds, self.years[:years])

    def last(self, years):
        """The history of the last so many years."""
        if not is_whole(years, 0, len(self)):
            raise BadYears(years)
        return history_of(self.kinds, _last_of(self.years, years))

    def beginnings(self):
        """The histories of the first 0, 1, 2, .. years, the whole one last."""
        for years in range(len(self) + 1):
            yield self.first(years)

    def joined(self, other):
        """This history with the years of the other one behind it."""
        if self.kinds != other.kinds:
            raise OtherKinds()
        years = (*self.years, *other.years)
        if _is_too_long(years):
            raise BadHistory(0, 0, "many")
        return history_of(self.kinds, years)

    def then_year(self, *deeds):
        """This history with one more year, which has these deeds."""
        if _is_too_long((*self.years, deeds)):
            raise BadHistory(0, 0, "many")
        year = _year_of(self.kinds, len(self), deeds)
        return history_of(self.kinds, (*self.years, year))

    def renamed(self, names):
        """This history with each person replaced by what it leads to."""
        word = map_fault(names, self.persons)
        if word is not None:
            raise BadMap(word)
        return history_of(self.kinds, tuple([_renamed_year(year, names) for year in self.years]))

    def agrees(self, other, years):
        """Whether both histories have at least so many years and the same last so many years."""
        if self.kinds != other.kinds:
            raise OtherKinds()
        if not is_whole(years, 0, MOST_YEARS):
            raise BadYears(years)
        if years > len(self) or years > len(other):
            return False
        return _last_of(self.years, years) == _last_of(other.years, years)


def history_of(kinds, years):
    """The history of years that are already known to be right.

    Years that come out of a history are not checked again, which would take as long as
    the history is at each of its beginnings.
    """
    made = History(kinds)
    made.years = years
    return made


def _last_of(years, many):
    return years[len(years) - many:]


def _is_too_long(years):
    if len(years) > MOST_YEARS:
        return True
    return sum([len(year) for year in years if is_sequence(year)]) > MOST_DEEDS


def _year_of(kinds, index, year):
    """The year as a tuple of deeds; the index is the one that its errors name."""
    if not is_sequence(year):
        raise BadHistory(index, 0, "year")
    for place, deed in enumerate(year):
        word = kinds.fault(deed)
        if word is not None:
            raise BadHistory(index, place, word)
    return tuple([tuple(deed) for deed in year])


def _renamed_year(year, names):
    return tuple([(deed[0], *[names[person] for person in deed[1:]]) for deed in year])
