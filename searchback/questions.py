"""Questions that are asked of a stand."""

from searchback.clauses import is_seat_name
from searchback.errors import BadQuestion, BadStand
from searchback.labels import is_label, is_whole
from searchback.stand import GREATEST_NUMBER


class Question:
    """The base of the questions.

    Beside what the document lists, a question has read(custom, code): the answer at the code of
    a stand, where both are known to fit.
    """

    def __eq__(self, other):
        return isinstance(other, Question) and self.__class__.__name__ == other.__class__.__name__


class Who(Question):
    """The person in the seat, or None."""

    def __init__(self, seat):
        if not is_seat_name(seat):
            raise BadQuestion("seat")
        self.seat = seat

    def __eq__(self, other):
        return isinstance(other, Who) and self.seat == other.seat

    def fault(self, custom):
        """None if the custom can be asked this, else the word for why not."""
        return _seats_fault(custom, (self.seat,))

    def of(self, custom, stand):
        """The answer at the stand."""
        _check(self, custom, stand)
        return self.read(custom, stand.code)

    def read(self, custom, code):
        """The answer at the code of a stand."""
        return code[1][custom.seats.index(self.seat)]


class Room(Question):
    """The room."""

    def __eq__(self, other):
        return isinstance(other, Room)

    def fault(self, custom):
        """None: every custom can be asked this."""
        return None

    def of(self, custom, stand):
        """The answer at the stand."""
        _check(self, custom, stand)
        return self.read(custom, stand.code)

    def read(self, custom, code):
        """The answer at the code of a stand."""
        return code[0]


class Filled(Question):
    """Whether somebody sits in the seat."""

    def __init__(self, seat):
        if not is_seat_name(seat):
            raise BadQuestion("seat")
        self.seat = seat

    def __eq__(self, other):
        return isinstance(other, Filled) and self.seat == other.seat

    def fault(self, custom):
        """None if the custom can be asked this, else the word for why not."""
        return _seats_fault(custom, (self.seat,))

    def of(self, custom, stand):
        """The answer at the stand."""
        _check(self, custom, stand)
        return self.read(custom, stand.code)

    def read(self, custom, code):
        """The answer at the code of a stand."""
        return code[1][custom.seats.index(self.seat)] is not None


class Together(Question):
    """Whether both seats hold the same person, or both nobody."""

    def __init__(self, seat, other):
        if not is_seat_name(seat) or not is_seat_name(other) or seat == other:
            raise BadQuestion("seat")
        self.seat = seat
        self.other = other

    def __eq__(self, other):
        return isinstance(other, Together) and self.seat == other.seat and self.other == other.other

    def fault(self, custom):
        """None if the custom can be asked this, else the word for why not."""
        return _seats_fault(custom, (self.seat, self.other))

    def of(self, custom, stand):
        """The answer at the stand."""
        _check(self, custom, stand)
        return self.read(custom, stand.code)

    def read(self, custom, code):
        """The answer at the code of a stand."""
        seats = code[1]
        return seats[custom.seats.index(self.seat)] == seats[custom.seats.index(self.other)]


class Reached(Question):
    """Whether the clock shows at least the number."""

    def __init__(self, clock, number):
        if not is_label(clock):
            raise BadQuestion("clock")
        if not is_whole(number, 1, GREATEST_NUMBER):
            raise BadQuestion("number")
        self.clock = clock
        self.number = number

    def __eq__(self, other):
        return isinstance(other, Reached) and self.clock == other.clock and self.number == other.number

    def fault(self, custom):
        """None if the custom can be asked this, else the word for why not."""
        for name, cap, _ in custom.clocks:
            if name == self.clock:
                return "number" if self.number > cap else None
        return "clock"

    def of(self, custom, stand):
        """The answer at the stand."""
        _check(self, custom, stand)
        return self.read(custom, stand.code)

    def read(self, custom, code):
        """The answer at the code of a stand."""
        names = [clock[0] for clock in custom.clocks]
        return code[2][names.index(self.clock)][0] >= self.number


def question_fault(custom, question):
    """None if this is a question that the custom can be asked, else the word for why not."""
    if not isinstance(question, Question):
        return "question"
    return question.fault(custom)


def _seats_fault(custom, seats):
    return None if all([seat in custom.seats for seat in seats]) else "seat"


def _check(question, custom, stand):
    word = question.fault(custom)
    if word is not None:
        raise BadQuestion(word)
    word = custom.stand_fault(stand)
    if word is not None:
        raise BadStand(word)
