"""Books of some kinds of deeds in some years, and which of them make an answer sure."""

from searchback.abstracts import Abstract, abstract_of
from searchback.checks import check_kinds, check_questions
from searchback.choices import is_part, lots_of
from searchback.entries import Noted
from searchback.errors import BadBook, BadShelf
from searchback.fillings import is_sure_through
from searchback.frame import Frame
from searchback.labels import is_count, is_label, is_sequence
from searchback.layers import check_placings, lot_ahead

MOST_BOOKS = 8


class Book:
    """A book of the deeds of some kinds in some years of a history."""

    def __init__(self, years, names):
        if not is_sequence(years) or not all([is_count(year) for year in years]):
            raise BadBook("years")
        if len(set(years)) < len(years):
            raise BadBook("years")
        if not is_sequence(names) or not all([is_label(name) for name in names]):
            raise BadBook("names")
        if len(set(names)) < len(names):
            raise BadBook("names")
        self.years = tuple(sorted(years))
        self.names = tuple(names)

    def __eq__(self, other):
        return isinstance(other, Book) and self.years == other.years and self.names == other.names


def year_books(history):
    """For each year in order a book of this year and all kinds."""
    return tuple([Book((year,), history.kinds.names) for year in range(len(history))])


def kind_books(history):
    """For each kind in order a book of all years and this kind."""
    return tuple([Book(tuple(range(len(history))), (name,)) for name in history.kinds.names])


def noted_of(history, books, *, whole=False):
    """The abstract of all that the books note of the history."""
    _check_shelf(history, books)
    entries = [_noted_year(history, books, year) for year in range(len(history))]
    return Abstract(history.kinds, entries, whole=whole)


def least_books(custom, history, question, books, *, whole=False):
    """All least lots of books with which alone the answer is sure."""
    trial = _trial_of(custom, history, question, books, whole)
    needed = trial.needed_ones()
    found = []
    for lot in lots_of(list(range(len(books)))):
        if is_part(needed, lot) and not any([is_part(one, lot) for one in found]) and trial.is_enough(lot):
            found.append(lot)
    return tuple(found)


def needed_books(custom, history, question, books, *, whole=False):
    """The books without each of which all others are not enough."""
    return _trial_of(custom, history, question, books, whole).needed_ones()


def enough_years(custom, history, question):
    """The least number of last years that make the answer sure if they are known, or None."""
    check_kinds(custom, history)
    check_questions(custom, (question,))
    abstract = abstract_of(history)
    check_placings(custom, len(abstract.persons))
    frame = Frame(custom, abstract.persons)
    ahead = lot_ahead(frame, False)
    if not is_sure_through(frame, ahead, abstract.years, question):
        return None
    # With more years known, the answer stays sure.
    least, most = 0, len(abstract)
    while least < most:
        middle = (least + most) // 2
        if is_sure_through(frame, ahead, abstract.last(middle).years, question):
            most = middle
        else:
            least = middle + 1
    return least


class ShelfTrial:
    """Tries lots of the books of one shelf; all of them in the frame of the whole shelf's persons.

    A person whom a lot does not name is there as good as an unnamed one: if this person can be
    the answer, so can each other whom the lot does not name, and the answer is not sure.
    """

    def __init__(self, custom, history, question, books, abstract):
        self.history = history
        self.question = question
        self.books = tuple(books)
        self.whole = abstract.whole
        self.frame = Frame(custom, abstract.persons)
        self.ahead = lot_ahead(self.frame, self.whole)
        self.known = {}

    def is_enough(self, lot):
        """Whether the answer is sure with the books of the lot alone."""
        if lot not in self.known:
            books = [self.books[index] for index in lot]
            entries = noted_of(self.history, books, whole=self.whole).years
            self.known[lot] = is_sure_through(self.frame, self.ahead, entries, self.question)
        return self.known[lot]

    def needed_ones(self):
        """The books without each of which all others are not enough."""
        every = tuple(range(len(self.books)))
        return tuple([
            book for book in every
            if not self.is_enough(tuple([other for other in every if other != book]))
        ])


def _trial_of(custom, history, question, books, whole):
    """The trial of a shelf; raises the errors of all its parts."""
    check_kinds(custom, history)
    check_questions(custom, (question,))
    abstract = noted_of(history, books, whole=whole)
    check_placings(custom, len(abstract.persons))
    return ShelfTrial(custom, history, question, books, abstract)


def _check_shelf(history, books):
    if not is_sequence(books) or len(books) > MOST_BOOKS:
        raise BadShelf(0, "books")
    for index, book in enumerate(books):
        if not isinstance(book, Book):
            raise BadShelf(index, "book")
        if book.years and book.years[-1] >= len(history):
            raise BadShelf(index, "years")
        if not all([name in history.kinds for name in book.names]):
            raise BadShelf(index, "names")


def _noted_year(history, books, year):
    """The entry of what the books note of one year."""
    noted = {name: True for book in books if year in book.years for name in book.names}
    names = [name for name in history.kinds.names if name in noted]
    return Noted(names, [deed for deed in history.years[year] if deed[0] in noted])
