"""Errors that several functions raise in the same way."""

from searchback.errors import BadQuestion, BadStand, NoKind, OtherKinds, TooMany
from searchback.labels import is_sequence
from searchback.questions import question_fault

MOST_STANDS = 400


def check_kinds(custom, thing):
    """Raise OtherKinds unless the history or abstract has the custom's kinds."""
    if custom.kinds != thing.kinds:
        raise OtherKinds()


def check_questions(custom, questions):
    """Raise BadQuestion for the first question that the custom cannot be asked."""
    for question in questions:
        word = question_fault(custom, question)
        if word is not None:
            raise BadQuestion(word)


def check_without(custom, without):
    """Raise NoKind unless the thing is a list or tuple of kinds of the custom."""
    if not is_sequence(without):
        raise NoKind(without)
    for name in without:
        if name not in custom.kinds:
            raise NoKind(name)


def check_asking(custom, questions, without):
    """Raise the errors of questions that are asked without deeds of some kinds."""
    check_questions(custom, questions)
    check_without(custom, without)


def check_stand(custom, stand):
    """Raise BadStand unless the thing is a stand of the custom's shape."""
    word = custom.stand_fault(stand)
    if word is not None:
        raise BadStand(word)


def check_size(custom):
    """Raise TooMany if there are too many stands of the custom's shape to go through."""
    if custom.most_stands > MOST_STANDS:
        raise TooMany(custom.most_stands)
