"""How soon a person can sit in a seat, whatever others do."""

from searchback.checks import check_play
from searchback.frame import numbers_in
from searchback.plans import Gets, Never
from searchback.sides import Sides
from searchback.sieges import Pursuit


def getting(custom, stand, seat, person):
    """Gets, with the least number of years, or Never."""
    check_play(custom, stand, seat, person)
    sides = Sides(custom, person)
    start = sides.number_of(stand)
    if sides.is_seated(stand.code, seat):
        return Gets(0, ())
    pursuit = Pursuit(sides, seat)
    years = pursuit.years_from(start)
    if years is None:
        return Never(_never_rows(pursuit, start))
    return Gets(years, _getting_rows(pursuit, start))


def _getting_rows(pursuit, start):
    """The rows of all moments to which the plan leads from the start."""
    sides = pursuit.sides
    waiting = [start]
    met = {start: True}
    rows = []
    while waiting:
        number = waiting.pop()
        years = pursuit.years_from(number)
        own, last = sides.own_row(number, sides.ending(pursuit.won(years - 1)))
        rows.append((sides.frame.stand_of(number), years, own))
        end = sides.frame.end_of(last)
        ends = [] if (pursuit.seated >> end) & 1 else [end]
        for to in (*numbers_in(sides.others_ways[number]), *ends):
            if to not in met:
                met[to] = True
                waiting.append(to)
    return tuple(rows)


def _never_rows(pursuit, start):
    """The rows of all beginnings to which the plan of others leads from the start."""
    sides = pursuit.sides
    goals = sides.unsaved(sides.everywhere & ~pursuit.won(-1))
    waiting = [start]
    met = {start: True}
    rows = []
    while waiting:
        number = waiting.pop()
        others, moment = sides.others_row(number, goals)
        rows.append((sides.frame.stand_of(number), others))
        for to in sides.own_ends(moment):
            if to not in met:
                met[to] = True
                waiting.append(to)
    return tuple(rows)
