"""Years that are all as one entry says, for all numbers of them."""

from searchback.abstracts import Abstract
from searchback.checks import check_questions
from searchback.fillings import lot_answers
from searchback.frame import Frame
from searchback.layers import check_placings, lot_ahead, lot_behind


class Steady:
    """The least number of years behind which the answer is sure, the answer, and the layers."""

    def __init__(self, years, answer, layers):
        self.years = years
        self.answer = answer
        self.layers = layers


class Unsteady:
    """No number of years is enough: the layers up to the first that leads to itself."""

    def __init__(self, layers):
        self.layers = layers


def steady_years(custom, entry, question):
    """Steady if some number of years, each as the entry says, makes the answer sure, else Unsteady.

    The stands that come at year's ends lead to no others, so each layer lies within the one before
    it, and one of them leads to itself.
    """
    abstract = Abstract(custom.kinds, [entry])
    check_questions(custom, (question,))
    check_placings(custom, len(abstract.persons))
    frame = Frame(custom, abstract.persons)
    lots = [lot_ahead(frame, False)]
    while True:
        answers = lot_answers(frame, lots[-1], question)
        if answers.is_sure:
            return Steady(len(lots) - 1, answers.possible[0], _layers(frame, lots))
        behind = lot_behind(frame, lots[-1], entry)
        if behind == lots[-1]:
            return Unsteady(_layers(frame, lots))
        lots.append(behind)


def _layers(frame, lots):
    return tuple([frame.stands_in(lot) for lot in lots])
