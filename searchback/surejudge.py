"""The judge of what is said to be sure or unsure."""

from searchback.checks import check_kinds, check_questions
from searchback.fillings import Unsure, is_same_answer, lot_answers
from searchback.frame import Frame, lot_of
from searchback.histories import History
from searchback.labels import is_sequence
from searchback.layers import check_placings, lot_behind
from searchback.trails import year_behind
from searchback.walks import answer_of


def sure_fault(custom, abstract, question, result):
    """None if the result is shown by what it has, else the word for why not."""
    check_kinds(custom, abstract)
    check_questions(custom, (question,))
    check_placings(custom, len(abstract.persons))
    if isinstance(result, Unsure):
        return _unsure_fault(custom, abstract, question, result)
    return _sure_fault(custom, abstract, question, result)


def _unsure_fault(custom, abstract, question, result):
    both = (result.one, result.other)
    if not all([isinstance(one, History) and one.kinds == custom.kinds for one in both]):
        return "history"
    if not all([abstract.fills(one) for one in both]):
        return "fills"
    one, other = [answer_of(custom, history, question) for history in both]
    return "alike" if one == other else None


def _sure_fault(custom, abstract, question, result):
    if not _are_layers(custom, result.layers, len(abstract) + 1):
        return "layers"
    frame = Frame(custom, abstract.persons)
    lots = [lot_of([frame.number_of(stand.code) for stand in layer]) for layer in result.layers]
    if not _is_ahead(frame, lots[0], abstract.whole):
        return "ahead"
    for entry, ahead, behind in zip(abstract.years, lots, lots[1:]):
        if (lot_behind(frame, ahead, entry) & ~behind) > 0:
            return "step"
    return None if _all_answer(frame, lots[-1], question, result.answer) else "answer"


def _are_layers(custom, layers, many):
    """Whether these are so many lists or tuples of stands of the custom."""
    if not is_sequence(layers) or len(layers) != many:
        return False
    if not all([is_sequence(layer) for layer in layers]):
        return False
    return all([custom.stand_fault(stand) is None for layer in layers for stand in layer])


def _is_ahead(frame, lot, whole):
    """Whether the lot has the start and, unless the abstract is whole, what any years lead to."""
    if not (lot >> frame.start) & 1:
        return False
    return whole or (year_behind(frame, lot, (), frame.custom.kinds.names) & ~lot) == 0


def _all_answer(frame, lot, question, answer):
    """Whether all stands of the lot give this answer, which is no unnamed person."""
    answers = lot_answers(frame, lot, question)
    return not answers.others and all([is_same_answer(one, answer) for one in answers.possible])
