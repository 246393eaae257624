"""Whether a person keeps a seat, though it is hindered for some years in a row."""

from searchback.checks import check_person, check_play, check_rest, check_seat, check_size
from searchback.frame import numbers_in
from searchback.plans import Keeps, Loses
from searchback.sides import Sides
from searchback.sieges import Siege, is_never_lost


class Rest:
    """The person keeps the seat with so many hindered years in a row, and with no more."""

    def __init__(self, years):
        self.years = years

    def __eq__(self, other):
        return isinstance(other, Rest) and self.years == other.years

    def allows(self, rest):
        """Whether the person keeps the seat with this rest."""
        return rest <= self.years


class Always:
    """The person keeps the seat with every rest."""

    def __eq__(self, other):
        return isinstance(other, Always)

    def allows(self, rest):
        """True: the person keeps the seat with this rest, too."""
        return True


class NoRest:
    """The person does not keep the seat, even if it is never hindered."""

    def __eq__(self, other):
        return isinstance(other, NoRest)

    def allows(self, rest):
        """False: the person does not keep the seat with this rest."""
        return False


def keeping(custom, stand, seat, person, *, rest=0):
    """Keeps if the person keeps the seat from the stand with this rest, else Loses."""
    check_play(custom, stand, seat, person, rest)
    sides = Sides(custom, person)
    siege = Siege(sides, seat, rest)
    start = sides.number_of(stand)
    years = siege.years_from(start, 0)
    if years is None:
        return Keeps(rest, _kept_rows(siege, start))
    return Loses(rest, years, _lost_rows(siege, start))


def kept_stands(custom, seat, person, *, rest=0):
    """The marked stands from which the person keeps the seat with this rest, in order."""
    check_seat(custom, seat)
    check_person(person)
    check_rest(rest)
    check_size(custom)
    sides = Sides(custom, person)
    return sides.frame.stands_in(Siege(sides, seat, rest).kept())


def greatest_rest(custom, stand, seat, person):
    """With which rests the person keeps the seat from the stand."""
    check_play(custom, stand, seat, person)
    sides = Sides(custom, person)
    start = sides.number_of(stand)
    if is_never_lost(sides, seat, start):
        return Always()
    if not _keeps(sides, seat, start, 0):
        return NoRest()
    low = 0
    high = 1
    while _keeps(sides, seat, start, high):
        low = high
        high = 2 * high
    while high - low > 1:
        middle = (low + high) // 2
        if _keeps(sides, seat, start, middle):
            low = middle
        else:
            high = middle
    return Rest(low)


def _keeps(sides, seat, start, rest):
    return (Siege(sides, seat, rest).kept() >> start) & 1 == 1


def _kept_rows(siege, start):
    """The rows of all moments to which the plan leads from the start."""
    sides = siege.sides
    waiting = [start]
    met = {start: True}
    rows = []
    while waiting:
        number = waiting.pop()
        level = siege.level_of(number)
        own, last = sides.own_row(number, sides.ending(siege.kept()))
        rows.append((sides.frame.stand_of(number), level, own))
        ends = [sides.frame.end_of(last)]
        if level < siege.rest:
            ends.append(sides.frame.end_of(number))
        for to in (*numbers_in(sides.others_ways[number]), *ends):
            if to not in met:
                met[to] = True
                waiting.append(to)
    return tuple(rows)


def _lost_rows(siege, start):
    """The rows of all beginnings to which the plan of others leads from the start."""
    sides = siege.sides
    waiting = [(start, 0)]
    met = {(start, 0): True}
    rows = []
    while waiting:
        number, hindered = waiting.pop()
        years = siege.years_from(number, hindered)
        if years == 0:
            continue
        hinder, goals = _next_goals(siege, number, hindered, years)
        others, moment = sides.others_row(number, goals)
        rows.append((sides.frame.stand_of(number), hindered, years, others, hinder))
        ends = [(sides.frame.end_of(moment), hindered + 1)] if hinder else [(to, 0) for to in sides.own_ends(moment)]
        for to in ends:
            if to not in met:
                met[to] = True
                waiting.append(to)
    return tuple(rows)


def _next_goals(siege, number, hindered, years):
    """Whether others hinder here, and the moments to which they go on."""
    sides = siege.sides
    if hindered < siege.rest:
        goals = sides.ending(siege.lost(years - 1, hindered + 1))
        if (sides.forced(goals) >> number) & 1:
            return (True, goals)
    return (False, sides.unsaved(siege.lost(years - 1, 0)))
