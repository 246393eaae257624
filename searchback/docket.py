"""Dockets: what is heard of a few years of a thing, late and in any order."""

from searchback.abstracts import Abstract
from searchback.checks import check_questions
from searchback.entries import Holding, Known
from searchback.errors import (
    BadDeed, BadDocket, BadLog, NoNews, NoPlace, NoYear, Overfull, YearIsNotShut, YearIsShut,
)
from searchback.histories import history_of
from searchback.labels import is_count, is_sequence, is_whole
from searchback.stand import Stand
from searchback.walks import code_behind

MOST_YEARS_OF_A_DOCKET = 8
# How long the row of a log is that begins with the word.
LOG_LENGTHS = {"tell": 4, "take back": 2, "shut": 2, "reopen": 2}


class News:
    """One deed that was told, under its number, and where it stands."""

    def __init__(self, number, year, place, deed):
        self.number = number
        self.year = year
        self.place = place
        self.deed = deed

    def __eq__(self, other):
        if not isinstance(other, News) or self.number != other.number:
            return False
        return self.year == other.year and self.place == other.place and self.deed == other.deed


class Docket:
    """A few years into which deeds are put as news of them comes, until they are shut.

    Beside what the document lists, `numbers` has for each deed of the rows the number of its
    news, and `next_number` is that of the next news.
    """

    MOST_DEEDS = 12
    MOST_PERSONS = 6

    def __init__(self, custom, years, *, ahead=False):
        if not is_whole(years, 1, MOST_YEARS_OF_A_DOCKET):
            raise BadDocket("years")
        if not isinstance(ahead, bool):
            raise BadDocket("ahead")
        self.custom = custom
        self.ahead = ahead
        self.rows = tuple([() for _ in range(years)])
        self.shut_years = ()
        self.log = ()
        self.numbers = self.rows
        self.next_number = 0

    def __eq__(self, other):
        if not isinstance(other, Docket) or self.custom != other.custom or self.ahead != other.ahead:
            return False
        return self.rows == other.rows and self.shut_years == other.shut_years

    def __len__(self):
        return len(self.rows)

    def __iter__(self):
        return iter(self.rows)

    @staticmethod
    def replayed(custom, years, rows, *, ahead=False):
        """A new docket in which the changes of the rows of a log were made."""
        docket = Docket(custom, years, ahead=ahead)
        for row in rows:
            docket.do(row)
        return docket

    @property
    def persons(self):
        """Those whom the rows name, in the order of first naming."""
        return _named_in(self.rows)

    def news(self):
        """The news of all deeds of the rows, by number."""
        found = {}
        for year, (deeds, numbers) in enumerate(zip(self.rows, self.numbers)):
            for place, (deed, number) in enumerate(zip(deeds, numbers)):
                found[number] = News(number, year, place, deed)
        return tuple([found[number] for number in sorted(list(found))])

    def told_history(self):
        """The history of the rows."""
        return history_of(self.custom.kinds, self.rows)

    def tell(self, year, place, deed):
        """Put a deed into a year, and return the number of its news."""
        self._check_open(year)
        if not is_whole(place, 0, len(self.rows[year])):
            raise NoPlace(place)
        word = self.custom.kinds.fault(deed)
        if word is not None:
            raise BadDeed(word)
        if sum([len(deeds) for deeds in self.rows]) >= self.MOST_DEEDS:
            raise Overfull("deeds")
        told = tuple(deed)
        if len(_named_in((*self.rows, (told,)))) > self.MOST_PERSONS:
            raise Overfull("persons")
        number = self.next_number
        self.next_number = number + 1
        self.rows = _with_more(self.rows, year, place, told)
        self.numbers = _with_more(self.numbers, year, place, number)
        self.log = (*self.log, ("tell", year, place, told))
        return number

    def take_back(self, number):
        """Take out the deed that was told under this number, and return its news as it stood."""
        # True is equal to 1 and is no number.
        found = [one for one in self.news() if is_count(number) and one.number == number]
        if not found:
            raise NoNews(number)
        taken = found[0]
        if taken.year in self.shut_years:
            raise YearIsShut(taken.year)
        self.rows = _with_less(self.rows, taken.year, taken.place)
        self.numbers = _with_less(self.numbers, taken.year, taken.place)
        self.log = (*self.log, ("take back", number))
        return taken

    def shut(self, year):
        """Let nothing more come into the year."""
        self._check_open(year)
        self.shut_years = tuple(sorted([*self.shut_years, year]))
        self.log = (*self.log, ("shut", year))

    def reopen(self, year):
        """Make the year one that is not shut."""
        self._check_year(year)
        if year not in self.shut_years:
            raise YearIsNotShut(year)
        self.shut_years = tuple([one for one in self.shut_years if one != year])
        self.log = (*self.log, ("reopen", year))

    def trial(self):
        """What undoes, at the end of a block, all that the block did."""
        return Trial(self)

    def tried(self, call):
        """What the call returns for this docket, whose changes are undone."""
        with self.trial() as held:
            return call(held)

    def do(self, row):
        """Make the change of a row of a log, and return what the method returns."""
        if not is_sequence(row) or len(row) == 0 or not isinstance(row[0], str):
            raise BadLog()
        if LOG_LENGTHS.get(row[0], 0) != len(row):
            raise BadLog()
        if row[0] == "tell":
            return self.tell(row[1], row[2], row[3])
        if row[0] == "take back":
            return self.take_back(row[1])
        if row[0] == "shut":
            return self.shut(row[1])
        return self.reopen(row[1])

    def told_stand(self, year):
        """The stand at the end of the year, if only the deeds of the rows were done."""
        self._check_year(year)
        code = self.custom.start.code
        for deeds in self.rows[:year + 1]:
            code = code_behind(self.custom, code, deeds)
        return Stand(*code)

    def abstract_to(self, year):
        """What is known of the years up to this one."""
        self._check_year(year)
        return shut_abstract(self, year, self.shut_years)

    def _check_year(self, year):
        if not is_whole(year, 0, len(self.rows) - 1):
            raise NoYear(year)

    def _check_open(self, year):
        self._check_year(year)
        if year in self.shut_years:
            raise YearIsShut(year)


class Trial:
    """Keeps how a docket stands at the beginning of a block, and puts it back at the end."""

    def __init__(self, docket):
        self.docket = docket

    def __enter__(self):
        self.rows = self.docket.rows
        self.shut_years = self.docket.shut_years
        self.log = self.docket.log
        self.numbers = self.docket.numbers
        self.next_number = self.docket.next_number
        return self.docket

    def __exit__(self, kind, value, trace):
        docket = self.docket
        docket.rows = self.rows
        docket.shut_years = self.shut_years
        docket.log = self.log
        docket.numbers = self.numbers
        docket.next_number = self.next_number


def told_answer(docket, year, question):
    """The question's answer at the end of the year, if only the deeds of the rows were done."""
    check_questions(docket.custom, (question,))
    return question.of(docket.custom, docket.told_stand(year))


def shut_abstract(docket, year, shut):
    """What would be known of the years up to this one if just these years were shut."""
    entries = [Known(deeds) if at in shut else Holding(deeds) for at, deeds in enumerate(docket.rows[:year + 1])]
    return Abstract(docket.custom.kinds, entries, whole=not docket.ahead)


def _named_in(rows):
    found = {}
    for deeds in rows:
        for deed in deeds:
            for person in deed[1:]:
                found[person] = True
    return tuple(found)


def _with_more(rows, year, place, thing):
    """The rows with one thing more at this place."""
    row = rows[year]
    return (*rows[:year], (*row[:place], thing, *row[place:]), *rows[year + 1:])


def _with_less(rows, year, place):
    """The rows without what stands at this place."""
    row = rows[year]
    return (*rows[:year], (*row[:place], *row[place + 1:]), *rows[year + 1:])
