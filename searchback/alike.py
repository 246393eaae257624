"""Whether two customs answer alike, or one covers the other, behind all histories."""

from searchback.abreast import Abreast, parted_question
from searchback.checks import check_questions, check_seat, check_size
from searchback.closed import Alike, Covers, Parting
from searchback.errors import OtherKinds, OtherSeats, TooMany
from searchback.joint import Joint
from searchback.pairs import MOST_PAIRS, most_pairs
from searchback.questions import Room, Who


def alike_customs(one, other, *questions):
    """Alike if both customs answer alike behind every history, else a Parting."""
    asked = asked_of_both(one, other, questions)
    search = Abreast(joint_of(one, other), asked, False)
    if search.parting is None:
        return Alike(search.pairs(search.ends), search.pairs(search.moments))
    return _parting_of(search)


def parting_years(one, other, *questions):
    """The least number of years behind which the answers are unlike, or None if there is none."""
    asked = asked_of_both(one, other, questions)
    return Abreast(joint_of(one, other), asked, False).years


def covering(one, other, seat):
    """Covers if whoever sits in the seat under other sits there under one, too, else a Parting."""
    check_covering(one, other, seat)
    search = Abreast(joint_of(one, other), (Who(seat),), True)
    if search.parting is None:
        return Covers(search.pairs(search.ends), search.pairs(search.moments))
    return _parting_of(search)


def asked_of_both(one, other, questions):
    """The questions that are asked, where none means all seats; raises the errors of such a call."""
    if one.kinds != other.kinds:
        raise OtherKinds()
    if not questions and one.seats != other.seats:
        raise OtherSeats()
    asked = tuple(questions) if questions else (Room(), *[Who(seat) for seat in one.seats])
    for question in asked:
        check_questions(one, (question,))
        check_questions(other, (question,))
    _check_sizes(one, other)
    return asked


def check_covering(one, other, seat):
    """Raise the errors of a call that asks whether one custom covers the other."""
    if one.kinds != other.kinds:
        raise OtherKinds()
    check_seat(one, seat)
    check_seat(other, seat)
    _check_sizes(one, other)


def joint_of(one, other):
    """The nodes of two customs with the same kinds."""
    return Joint(one, other, one.kinds.rows)


def _check_sizes(one, other):
    """Raise TooMany if there are too many stands, or too many pairs of them, to go through."""
    check_size(one)
    check_size(other)
    count = most_pairs(one, other)
    if count > MOST_PAIRS:
        raise TooMany(count)


def _parting_of(search):
    """The Parting of a search that found one."""
    history, one, other = search.led_to_parting()
    question = parted_question(search.joint, one, other, search.questions, search.covers)
    first, second = question.read(search.joint.one, one), question.read(search.joint.other, other)
    return Parting(history, question, first, second)
