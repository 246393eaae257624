"""Errors that several functions raise in the same way."""

from searchback.errors import BadPerson, BadQuestion, BadRest, BadSeat, BadStand, NoKind, OtherKinds, TooMany
from searchback.labels import is_label, is_sequence, is_whole
from searchback.questions import question_fault

MOST_STANDS = 400
MOST_REST = 500


def check_kinds(custom, thing):
    """Raise OtherKinds unless the history or abstract has the custom's kinds."""
    if custom.kinds != thing.kinds:
        raise OtherKinds()


def check_questions(custom, questions):
    """Raise BadQuestion for the first question that the custom cannot be asked."""
    for question in questions:
        word = question_fault(custom, question)
        if word is not None:
            raise BadQuestion(word)


def check_without(custom, without):
    """Raise NoKind unless the thing is a list or tuple of kinds of the custom."""
    if not is_sequence(without):
        raise NoKind(without)
    for name in without:
        if name not in custom.kinds:
            raise NoKind(name)


def check_asking(custom, questions, without):
    """Raise the errors of questions that are asked without deeds of some kinds."""
    check_questions(custom, questions)
    check_without(custom, without)


def check_stand(custom, stand):
    """Raise BadStand unless the thing is a stand of the custom's shape."""
    word = custom.stand_fault(stand)
    if word is not None:
        raise BadStand(word)


def check_seat(custom, seat):
    """Raise BadSeat unless the custom has the seat."""
    if not is_label(seat) or seat not in custom.seats:
        raise BadSeat(seat)


def check_person(person):
    """Raise BadPerson unless the thing is a label."""
    if not is_label(person):
        raise BadPerson(person)


def check_rest(rest):
    """Raise BadRest unless this is a number of hindered years in a row that can be asked for."""
    if not is_whole(rest, 0, MOST_REST):
        raise BadRest(rest)


def check_play(custom, stand, seat, person, rest=0):
    """Raise the errors of a call that asks what a person can do for a seat from a stand on."""
    check_stand(custom, stand)
    check_seat(custom, seat)
    check_person(person)
    check_rest(rest)
    check_size(custom)


def check_size(custom):
    """Raise TooMany if there are too many stands of the custom's shape to go through."""
    if custom.most_stands > MOST_STANDS:
        raise TooMany(custom.most_stands)
