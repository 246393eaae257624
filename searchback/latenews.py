"""What a docket makes sure, and which years it would have to shut."""

from searchback.checks import check_questions
from searchback.choices import is_part, lots_of
from searchback.docket import shut_abstract
from searchback.errors import TooLoose
from searchback.fillings import is_sure_through, lot_answers, sure_answer
from searchback.frame import Frame
from searchback.layers import check_placings, lot_ahead, lots_through

MOST_LOOSE = 5


def sure_at(docket, year, question):
    """Sure if all histories that fill the docket up to the year answer alike at its end, else Unsure."""
    check_questions(docket.custom, (question,))
    return sure_answer(docket.custom, docket.abstract_to(year), question)


def settled_years(docket, question):
    """The years at whose end the answer is sure, ascending."""
    check_questions(docket.custom, (question,))
    for year in range(len(docket)):
        check_placings(docket.custom, len(docket.abstract_to(year).persons))
    # Who is named only later is never the sure answer, so all years are led through as one row.
    frame = Frame(docket.custom, docket.persons)
    entries = docket.abstract_to(len(docket) - 1).years
    lots = lots_through(frame, lot_ahead(frame, not docket.ahead), entries)
    return tuple([year for year, lot in enumerate(lots[1:]) if lot_answers(frame, lot, question).is_sure])


def least_shuttings(docket, year, question):
    """All least lots of years that would make the answer sure if they were shut as they stand."""
    check_questions(docket.custom, (question,))
    persons = docket.abstract_to(year).persons
    loose = _loose_to(docket, year)
    if len(loose) > MOST_LOOSE:
        raise TooLoose(len(loose))
    trial = ShutTrial(docket, year, question, persons)
    found = []
    for lot in lots_of(loose):
        if not any([is_part(least, lot) for least in found]) and trial.is_enough(lot):
            found.append(lot)
    return tuple(found)


def loose_years(docket, year, question):
    """The years up to this one that are not shut, without each of which the others are not enough."""
    check_questions(docket.custom, (question,))
    trial = ShutTrial(docket, year, question, docket.abstract_to(year).persons)
    loose = _loose_to(docket, year)
    return tuple([one for one in loose if not trial.is_enough([other for other in loose if other != one])])


class ShutTrial:
    """Tries lots of years up to one year of a docket, as if they were shut; raises TooMany."""

    def __init__(self, docket, year, question, persons):
        check_placings(docket.custom, len(persons))
        self.docket = docket
        self.year = year
        self.question = question
        self.frame = Frame(docket.custom, persons)
        self.ahead = lot_ahead(self.frame, not docket.ahead)

    def is_enough(self, lot):
        """Whether the answer is sure if the years of the lot are shut, too."""
        entries = shut_abstract(self.docket, self.year, (*self.docket.shut_years, *lot)).years
        return is_sure_through(self.frame, self.ahead, entries, self.question)


def _loose_to(docket, year):
    """The years up to this one that are not shut, ascending."""
    return [one for one in range(year + 1) if one not in docket.shut_years]
