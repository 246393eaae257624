"""Walks: histories led through a custom, deed by deed and year by year."""

from searchback.checks import check_kinds, check_questions, check_stand
from searchback.customs import deed_step, end_step
from searchback.errors import BadYears
from searchback.labels import is_whole
from searchback.stand import Stand


class Step:
    """What a deed or a year's end, with None as its deed, led to."""

    def __init__(self, year, place, deed, clause, stand):
        self.year = year
        self.place = place
        self.deed = deed
        self.clause = clause
        self.stand = stand

    def __eq__(self, other):
        if not isinstance(other, Step) or self.year != other.year or self.place != other.place:
            return False
        return self.deed == other.deed and self.clause == other.clause and self.stand == other.stand


def stand_at(custom, history, years=None):
    """The stand behind the first so many years; behind all of them if years is None."""
    check_kinds(custom, history)
    code = _code_at(custom, history, years)
    return Stand(*code)


def answer_of(custom, history, question, years=None):
    """The answer behind the first so many years; behind all of them if years is None."""
    check_kinds(custom, history)
    check_questions(custom, (question,))
    return question.read(custom, _code_at(custom, history, years))


def answers_through(custom, history, question):
    """The answers at the start and at each year's end."""
    check_kinds(custom, history)
    check_questions(custom, (question,))
    return tuple([question.read(custom, code) for code in end_codes(custom, history)])


def steps_of(custom, history):
    """A step for each deed and, behind the deeds of each year, for its end."""
    check_kinds(custom, history)
    for year, place, deed, clause, code in code_steps(custom, history):
        yield Step(year, place, deed, clause, Stand(*code))


def led_on(custom, stand, history):
    """The last stand if the years of the history follow on this stand."""
    check_kinds(custom, history)
    check_stand(custom, stand)
    code = stand.code
    for year in history.years:
        code = code_behind(custom, code, year)
    return Stand(*code)


def code_steps(custom, history):
    """The fields of the steps, with the code of the stand in its place."""
    code = custom.start.code
    for index, year in enumerate(history.years):
        for place, deed in enumerate(year):
            clause, code = deed_step(custom, code, deed)
            yield (index, place, deed, clause, code)
        clause, code = end_step(custom, code)
        yield (index, len(year), None, clause, code)


def end_codes(custom, history):
    """The codes of the stands at the start and at each year's end."""
    code = custom.start.code
    yield code
    for year in history.years:
        code = code_behind(custom, code, year)
        yield code


def code_led(custom, code, deeds):
    """The code behind some deeds of a year."""
    for deed in deeds:
        code = deed_step(custom, code, deed)[1]
    return code


def code_behind(custom, code, year):
    """The code behind the deeds of a year and its end."""
    return end_step(custom, code_led(custom, code, year))[1]


def _code_at(custom, history, years):
    many = len(history) if years is None else years
    if not is_whole(many, 0, len(history)):
        raise BadYears(years)
    code = custom.start.code
    for year in history.years[:many]:
        code = code_behind(custom, code, year)
    return code
