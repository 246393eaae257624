"""The errors of the package."""


class SearchError(ValueError):
    """Something that was passed in is refused; the base of all other errors."""


class BadKinds(SearchError):
    """The rows of a Kinds are refused."""
    def __init__(self, index, what):
        self.index = index
        self.what = what


class NoKind(SearchError):
    """There is no kind of this name."""
    def __init__(self, name):
        self.name = name


class BadHistory(SearchError):
    """The years of a history are refused."""
    def __init__(self, year, index, what):
        self.year = year
        self.index = index
        self.what = what


class BadYears(SearchError):
    """This is no number of years that can be asked for."""
    def __init__(self, years):
        self.years = years


class OtherKinds(SearchError):
    """Two things that belong together have unequal kinds."""


class BadMap(SearchError):
    """This renames not all persons, or not one to one."""
    def __init__(self, what):
        self.what = what


class BadPerson(SearchError):
    """This is no person that can stand here."""
    def __init__(self, person):
        self.person = person


class BadText(SearchError):
    """This text says nothing that can be read."""
    def __init__(self, row, what):
        self.row = row
        self.what = what


class BadStand(SearchError):
    """This is no stand, or none of the custom's shape."""
    def __init__(self, what):
        self.what = what


class BadDeed(SearchError):
    """This is no deed of the kinds."""
    def __init__(self, what):
        self.what = what


class BadCondition(SearchError):
    """An argument of a condition is refused."""
    def __init__(self, what):
        self.what = what


class BadChange(SearchError):
    """An argument of a change is refused."""
    def __init__(self, what):
        self.what = what


class BadClause(SearchError):
    """The parts of a clause are refused."""
    def __init__(self, index, what):
        self.index = index
        self.what = what


class BadCustom(SearchError):
    """The parts of a custom are refused."""
    def __init__(self, index, what):
        self.index = index
        self.what = what


class BadQuestion(SearchError):
    """This is no question that the custom can be asked."""
    def __init__(self, what):
        self.what = what


class TooMany(SearchError):
    """There are more stands or pairs than are gone through."""
    def __init__(self, count):
        self.count = count


class BadSeat(SearchError):
    """The custom has no such seat."""
    def __init__(self, seat):
        self.seat = seat


class BadClock(SearchError):
    """The custom has no such clock."""
    def __init__(self, clock):
        self.clock = clock


class NoClause(SearchError):
    """The custom has no clause with this index."""
    def __init__(self, index):
        self.index = index


class BadShape(SearchError):
    """Two customs have unlike shapes."""
    def __init__(self, what):
        self.what = what


class BadSpot(SearchError):
    """There is no deed at this spot, or it was named before."""
    def __init__(self, index):
        self.index = index


class NoStand(SearchError):
    """The stand does not come."""


class BadLikeness(SearchError):
    """This is no likeness, or none of these stands."""
    def __init__(self, what):
        self.what = what


class BadIndex(SearchError):
    """There is nothing with this index."""
    def __init__(self, index):
        self.index = index


class BadPair(SearchError):
    """One of two things is no stand."""
    def __init__(self, what):
        self.what = what


class BadHeights(SearchError):
    """The rows of a table of heights are refused."""
    def __init__(self, index, what):
        self.index = index
        self.what = what


class NoPair(SearchError):
    """The pair is not listed."""


class BadPasts(SearchError):
    """Two histories and common years are refused."""
    def __init__(self, what):
        self.what = what


class BadRings(SearchError):
    """Two histories, a ring and a tail are refused."""
    def __init__(self, what):
        self.what = what


class BadTurns(SearchError):
    """This is no number of turns that can be asked for."""
    def __init__(self, turns):
        self.turns = turns


class BadEntry(SearchError):
    """What an entry tells is refused."""
    def __init__(self, what):
        self.what = what


class BadAbstract(SearchError):
    """The entries of an abstract are refused."""
    def __init__(self, year, what):
        self.year = year
        self.what = what


class BadBook(SearchError):
    """The years or the kinds of a book are refused."""
    def __init__(self, what):
        self.what = what


class BadShelf(SearchError):
    """The books of a shelf are refused."""
    def __init__(self, index, what):
        self.index = index
        self.what = what


class BadRound(SearchError):
    """A round cannot be played."""
    def __init__(self, index, what):
        self.index = index
        self.what = what


class BadRest(SearchError):
    """This is no rest that can be asked for."""
    def __init__(self, rest):
        self.rest = rest


class BadPaper(SearchError):
    """The parts of a plan have not their shape."""


class NoRow(SearchError):
    """The plan has no such row."""


class OtherSeats(SearchError):
    """Two customs have unlike seats."""


class BadDocket(SearchError):
    """A docket cannot be opened so."""
    def __init__(self, what):
        self.what = what


class NoYear(SearchError):
    """The docket has no such year."""
    def __init__(self, year):
        self.year = year


class YearIsShut(SearchError):
    """The year is shut."""
    def __init__(self, year):
        self.year = year


class YearIsNotShut(SearchError):
    """The year is not shut."""
    def __init__(self, year):
        self.year = year


class NoPlace(SearchError):
    """The year has no such place."""
    def __init__(self, place):
        self.place = place


class NoNews(SearchError):
    """No deed was told under this number."""
    def __init__(self, number):
        self.number = number


class Overfull(SearchError):
    """The docket can take no more."""
    def __init__(self, what):
        self.what = what


class BadLog(SearchError):
    """This is no row of a log."""


class TooLoose(SearchError):
    """Too many years are not shut."""
    def __init__(self, count):
        self.count = count


class BadAmendment(SearchError):
    """An amendment is refused, or does not fit."""
    def __init__(self, what):
        self.what = what


class BadPool(SearchError):
    """The parts of a pool are refused."""
    def __init__(self, index, what):
        self.index = index
        self.what = what


class BadLot(SearchError):
    """This is no lot of the pool."""
    def __init__(self, what):
        self.what = what


class Clash(SearchError):
    """Two amendments of a lot touch one clause."""
    def __init__(self, first, second):
        self.first = first
        self.second = second


class NotParted(SearchError):
    """The lot is neither endless nor too far."""
    def __init__(self, lot):
        self.lot = lot
