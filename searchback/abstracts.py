"""Abstracts: rows of entries, for as many last years of histories."""

from searchback.entries import Entry, Known, Noted, Unknown, entry_within
from searchback.errors import BadAbstract, BadYears, OtherKinds
from searchback.kinds import Kinds
from searchback.labels import is_sequence, is_whole

MOST_ENTRIES = 200
MOST_NAMED = 8


class Abstract:
    """What is known of the last years of a history, or of all its years if it is whole."""

    def __init__(self, kinds, years, *, whole=False):
        if not isinstance(kinds, Kinds):
            raise BadAbstract(0, "kinds")
        if not isinstance(whole, bool):
            raise BadAbstract(0, "whole")
        if not is_sequence(years):
            raise BadAbstract(0, "years")
        if len(years) > MOST_ENTRIES:
            raise BadAbstract(0, "many")
        for index, entry in enumerate(years):
            word = _entry_fault(kinds, entry)
            if word is not None:
                raise BadAbstract(index, word)
        _check_persons(years)
        self.kinds = kinds
        self.years = tuple(years)
        self.whole = whole

    def __eq__(self, other):
        if not isinstance(other, Abstract) or self.kinds != other.kinds:
            return False
        return self.years == other.years and self.whole == other.whole

    def __len__(self):
        return len(self.years)

    def __iter__(self):
        return iter(self.years)

    @classmethod
    def from_entries(cls, kinds, *entries):
        """The abstract of these entries, which is not whole."""
        return cls(kinds, entries)

    @property
    def persons(self):
        """The named persons, in the order of first naming."""
        return _named_in(self.years)

    def fills(self, history):
        """Whether the history has years enough, just as many if need be, and its last ones are let."""
        if self.kinds != history.kinds:
            raise OtherKinds()
        if len(history) < len(self) or (self.whole and len(history) > len(self)):
            return False
        last = history.years[len(history) - len(self):]
        return all([entry.lets(self.kinds, year) for entry, year in zip(self.years, last)])

    def then_year(self, entry):
        """The abstract with one more entry."""
        return Abstract(self.kinds, (*self.years, entry), whole=self.whole)

    def last(self, years):
        """The abstract of the last so many entries; it is whole only if that are all of a whole one."""
        if not is_whole(years, 0, len(self)):
            raise BadYears(years)
        kept = self.years[len(self) - years:]
        return Abstract(self.kinds, kept, whole=self.whole and years == len(self))

    def hidden(self, *years):
        """The abstract with nothing known in these years."""
        for year in years:
            if not is_whole(year, 0, len(self) - 1):
                raise BadYears(year)
        kept = [Unknown() if index in years else entry for index, entry in enumerate(self.years)]
        return Abstract(self.kinds, kept, whole=self.whole)

    def is_within(self, other):
        """Whether every history that fills this abstract fills the other one."""
        if self.kinds != other.kinds:
            raise OtherKinds()
        if len(self) < len(other):
            return False
        if other.whole and not (self.whole and len(self) == len(other)):
            return False
        last = self.years[len(self) - len(other):]
        return all([entry_within(self.kinds, one, wide) for one, wide in zip(last, other.years)])


def abstract_of(history, years=None):
    """The abstract of the last so many years, known; of all years if years is None."""
    kept = history if years is None else history.last(years)
    return Abstract(history.kinds, [Known(year) for year in kept.years])


def _named_in(entries):
    """Each person whom told deeds of the entries name, in order."""
    found = {}
    for entry in entries:
        for deed in entry.told:
            for person in deed[1:]:
                found[person] = True
    return tuple(found)


def _check_persons(entries):
    found = {}
    for index, entry in enumerate(entries):
        for person in _named_in([entry]):
            found[person] = True
        if len(found) > MOST_NAMED:
            raise BadAbstract(index, "persons")


def _entry_fault(kinds, entry):
    """The word for why this is no entry for these kinds, or None."""
    if not isinstance(entry, Entry):
        return "entry"
    if not all([name in kinds for name in entry.names]):
        return "names"
    for deed in entry.told:
        word = kinds.fault(deed)
        if word is not None:
            return word
        if isinstance(entry, Noted) and deed[0] not in entry.names:
            return "noted"
    return None
