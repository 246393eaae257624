"""Judges of plans: whether all that they say holds.

While a plan is judged, its rows are kept in a table by the numbers of their marked stands.
"""

from searchback.checks import check_play
from searchback.frame import numbers_in
from searchback.plans import Gets, Keeps, Loses, Never
from searchback.rounds import is_own
from searchback.shapes import placed
from searchback.sides import Sides
from searchback.walks import code_behind, code_led


def keeping_fault(custom, stand, seat, person, paper, *, rest=0):
    """None if the paper shows whether the person keeps the seat, else the word for why not."""
    check_play(custom, stand, seat, person, rest)
    sides = Sides(custom, person)
    if isinstance(paper, Keeps):
        return _keeps_fault(sides, stand, seat, paper, rest)
    if isinstance(paper, Loses):
        return _loses_fault(sides, stand, seat, paper, rest)
    return "paper"


def getting_fault(custom, stand, seat, person, paper):
    """None if the paper shows how soon the person can have the seat, else the word for why not."""
    check_play(custom, stand, seat, person)
    sides = Sides(custom, person)
    if isinstance(paper, Gets):
        return _gets_fault(sides, stand, seat, paper)
    if isinstance(paper, Never):
        return _never_fault(sides, stand, seat, paper)
    return "paper"


def _keeps_fault(sides, stand, seat, paper, rest):
    if paper.rest != rest:
        return "rest"
    levels = _table_of(sides, [(held, level) for held, level, _ in paper.rows])
    if levels is None or not all([level <= rest for level in list(levels.values())]):
        return "stands"
    if not all([_is_row_of(sides, own, True) for _, _, own in paper.rows]):
        return "own"
    if not sides.is_seated(stand.code, seat) or levels.get(sides.number_of(stand)) != 0:
        return "start"
    if not _stays_low(sides, levels):
        return "deed"
    for held, _, own in paper.rows:
        if not _is_held(sides, seat, levels, code_behind(sides.custom, held.code, own), 0):
            return "kept"
    for held, level, _ in paper.rows:
        if level < rest and not _is_held(sides, seat, levels, code_behind(sides.custom, held.code, ()), level + 1):
            return "hindered"
    return None


def _loses_fault(sides, stand, seat, paper, rest):
    if paper.rest != rest:
        return "rest"
    table = _beginnings_of(sides, paper, rest)
    if table is None:
        return "stands"
    if not all([_is_row_of(sides, others, False) for _, _, _, others, _ in paper.rows]):
        return "others"
    if any([hinder and hindered == rest for _, hindered, _, _, hinder in paper.rows]):
        return "hinder"
    if not sides.is_seated(stand.code, seat):
        if paper.years != 0:
            return "start"
    elif table.get((sides.number_of(stand), 0)) != paper.years:
        return "start"
    for held, hindered, years, others, hinder in paper.rows:
        behind = hindered + 1 if hinder else 0
        for number in _ends_behind(sides, held, others, hinder):
            seated = sides.is_seated(sides.frame.stand_of(number).code, seat)
            if seated and table.get((number, behind), years) >= years:
                return "falls"
    return None


def _gets_fault(sides, stand, seat, paper):
    table = _table_of(sides, [(held, years) for held, years, _ in paper.rows])
    if table is None:
        return "stands"
    if not all([_is_row_of(sides, own, True) for _, _, own in paper.rows]):
        return "own"
    if sides.is_seated(stand.code, seat):
        if paper.years != 0:
            return "start"
    elif table.get(sides.number_of(stand)) != paper.years:
        return "start"
    if not _stays_low(sides, table):
        return "deed"
    for held, years, own in paper.rows:
        code = code_behind(sides.custom, held.code, own)
        if not sides.is_seated(code, seat) and table.get(sides.frame.number_of(code), years) >= years:
            return "falls"
    return None


def _never_fault(sides, stand, seat, paper):
    table = _table_of(sides, [(held, 0) for held, _ in paper.rows])
    if table is None:
        return "stands"
    if not all([_is_row_of(sides, others, False) for _, others in paper.rows]):
        return "others"
    if sides.is_seated(stand.code, seat) or sides.number_of(stand) not in table:
        return "start"
    for held, others in paper.rows:
        for number in _ends_behind(sides, held, others, False):
            if number not in table or sides.is_seated(sides.frame.stand_of(number).code, seat):
                return "never"
    return None


def _table_of(sides, rows):
    """The number of each row's stand with what the row has; None if one is not marked or stands twice."""
    table = {}
    for held, worth in rows:
        if not _is_marked(sides, held) or sides.number_of(held) in table:
            return None
        table[sides.number_of(held)] = worth
    return table


def _beginnings_of(sides, paper, rest):
    """The years of the rows of a Loses, by the number and the hindered years; None if they may not be so."""
    table = {}
    for held, hindered, years, _, _ in paper.rows:
        if not _is_marked(sides, held) or hindered > rest:
            return None
        key = (sides.number_of(held), hindered)
        if key in table:
            return None
        table[key] = years
    return table


def _is_marked(sides, held):
    """Whether this is a marked stand of the custom."""
    return sides.custom.stand_fault(held) is None and placed(held.seats, (sides.person,)) == held.seats


def _is_row_of(sides, deeds, own):
    """Whether all deeds of the row are the person's own, or all are deeds of others."""
    for deed in deeds:
        if sides.custom.kinds.fault(deed) is not None or is_own(deed, sides.person) != own:
            return False
    return True


def _stays_low(sides, table):
    """Whether deeds of others lead from each listed stand to listed ones with no greater number."""
    for number, worth in list(table.items()):
        for to in numbers_in(sides.others_ways[number]):
            if to not in table or table[to] > worth:
                return False
    return True


def _is_held(sides, seat, levels, code, most):
    """Whether the person sits in the seat at a year's end, and is safe behind so many hindered years."""
    number = sides.frame.number_of(code)
    return sides.is_seated(code, seat) and number in levels and levels[number] <= most


def _ends_behind(sides, held, others, hinder):
    """The numbers of the stands at the year's end behind others' row."""
    number = sides.frame.number_of(code_led(sides.custom, held.code, others))
    return [sides.frame.end_of(number)] if hinder else sides.own_ends(number)
