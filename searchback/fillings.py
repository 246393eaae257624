"""What the fillings of an abstract answer."""

from searchback.checks import check_kinds, check_questions
from searchback.frame import Frame, numbers_in
from searchback.histories import history_of
from searchback.labels import fresh_labels, is_label
from searchback.layers import check_placings, lot_ahead, lots_through
from searchback.questions import Room, Who
from searchback.stands import coming_stands
from searchback.trails import played_years, years_back


class Answers:
    """What can be answered, and whether an unnamed person can be the answer."""

    def __init__(self, possible, others):
        self.possible = possible
        self.others = others

    @property
    def is_sure(self):
        """Whether one answer alone is possible."""
        return len(self.possible) == 1 and not self.others


class Sure:
    """The answer of all fillings, and the layers that show it."""

    def __init__(self, answer, layers):
        self.answer = answer
        self.layers = layers


class Unsure:
    """Two fillings that answer unlike."""

    def __init__(self, one, other):
        self.one = one
        self.other = other


def answers_of(custom, abstract, question):
    """What can be answered at the end of a filling."""
    frame = _frame_of(custom, abstract, question)
    return lot_answers(frame, lots_through(frame, lot_ahead(frame, abstract.whole), abstract.years)[-1], question)


def filling_for(custom, abstract, question, answer):
    """A history that fills the abstract and answers so, or None if there is none."""
    frame = _frame_of(custom, abstract, question)
    lots = lots_through(frame, lot_ahead(frame, abstract.whole), abstract.years)
    return _filling(frame, lots, abstract, question, answer)


def sure_answer(custom, abstract, question):
    """Sure if all fillings answer alike, else Unsure."""
    frame = _frame_of(custom, abstract, question)
    lots = lots_through(frame, lot_ahead(frame, abstract.whole), abstract.years)
    answers = lot_answers(frame, lots[-1], question)
    if answers.is_sure:
        return Sure(answers.possible[0], tuple([frame.stands_in(lot) for lot in lots]))
    # Where one unnamed person can be the answer, each other one can.
    unnamed = fresh_labels(frame.named, 2) if answers.others else ()
    one, other = (*answers.possible, *unnamed)[:2]
    return Unsure(
        _filling(frame, lots, abstract, question, one),
        _filling(frame, lots, abstract, question, other),
    )


def lot_answers(frame, lot, question):
    """What is answered in the stands of a lot of placed stands."""
    found = {}
    for number in numbers_in(lot):
        found[question.read(frame.custom, frame.stand_of(number).code)] = True
    if isinstance(question, Who):
        wanted = (*frame.named, None)
    elif isinstance(question, Room):
        wanted = frame.custom.rooms
    else:
        wanted = (False, True)
    possible = tuple([answer for answer in wanted if answer in found])
    return Answers(possible, len(found) > len(possible))


def is_sure_through(frame, ahead, entries, question):
    """Whether the answer is sure behind these entries, from this lot on."""
    return lot_answers(frame, lots_through(frame, ahead, entries)[-1], question).is_sure


def is_same_answer(one, other):
    """Whether any thing is the same answer as this one; 1 and 0 are other answers than True and False."""
    if one is None:
        return other is None
    if isinstance(one, bool):
        return isinstance(other, bool) and one == other
    return isinstance(other, str) and one == other


def _frame_of(custom, abstract, question):
    """The frame of the abstract's persons; raises the errors of all three."""
    check_kinds(custom, abstract)
    check_questions(custom, (question,))
    check_placings(custom, len(abstract.persons))
    return Frame(custom, abstract.persons)


def _filling(frame, lots, abstract, question, answer):
    """A filling whose layers are these lots and that answers so, or None."""
    goals = [number for number in numbers_in(lots[-1]) if _can_answer(frame, number, question, answer)]
    if not goals:
        return None
    kinds = frame.custom.kinds
    years = [(entry.told, entry.free(kinds)) for entry in abstract.years]
    start, rows = years_back(frame, lots[:-1], years, goals[0])
    ahead = frame.stand_of(start)
    played, code = played_years(frame, ahead.code, rows, years)
    past = () if abstract.whole else coming_stands(frame.custom).history_to(ahead).years
    filling = history_of(kinds, (*past, *played))
    if not isinstance(question, Who) or answer is None:
        return filling
    return _exchanged(filling, question.read(frame.custom, code), answer)


def _can_answer(frame, number, question, answer):
    """Whether the stand answers so, if its unnamed persons may have any other names."""
    found = question.read(frame.custom, frame.stand_of(number).code)
    if isinstance(question, Who) and found is not None and found not in frame.named:
        return is_label(answer) and answer not in frame.named
    return is_same_answer(found, answer)


def _exchanged(history, one, other):
    """The history with two persons called by each other's names."""
    names = {person: person for person in history.persons}
    names[one] = other
    names[other] = one
    return history.renamed(names)
