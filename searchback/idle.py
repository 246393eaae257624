"""Clauses that never act, and clauses that may be left out."""

from searchback.abreast import Abreast
from searchback.alike import asked_of_both, joint_of
from searchback.customs import deed_step, end_step
from searchback.errors import NoClause
from searchback.histories import history_of
from searchback.kinds import YEAR
from searchback.labels import is_whole
from searchback.shapes import kind_deeds
from searchback.stands import coming_stands


def idle_clauses(custom):
    """The indexes of all clauses that act in no history, ascending."""
    coming = coming_stands(custom)
    acting = {}
    for stand in coming:
        acting[end_step(custom, stand.code)[0]] = True
        for deed in _deeds_at(custom, custom.kinds.names, stand):
            acting[deed_step(custom, stand.code, deed)[0]] = True
    return tuple([index for index in range(len(custom)) if index not in acting])


def acting_history(custom, index):
    """A history of the least number of years in which the clause acts, in its last year; None if it is idle."""
    _check_index(index, len(custom))
    coming = coming_stands(custom)
    kind = custom.clauses[index].kind
    found = None
    for stand in coming:
        deeds = _acting_deeds(custom, index, kind, stand)
        if deeds is not None and (found is None or coming.years_ahead(stand) < coming.years_ahead(found[0])):
            found = (stand, deeds)
    if found is None:
        return None
    ahead, year = coming.way_to(found[0])
    return history_of(custom.kinds, (*ahead.years, (*year, *found[1])))


def dropped(custom, index):
    """The custom without this clause."""
    _check_index(index, len(custom))
    return custom.with_clauses((*custom.clauses[:index], *custom.clauses[index + 1:]))


def exchanged(custom, index):
    """The custom in which this clause and the next one have changed places."""
    _check_index(index, len(custom) - 1)
    clauses = custom.clauses
    return custom.with_clauses((*clauses[:index], clauses[index + 1], clauses[index], *clauses[index + 2:]))


def trimmed(custom):
    """The custom without all its idle clauses."""
    idle = idle_clauses(custom)
    return custom.with_clauses([clause for index, clause in enumerate(custom.clauses) if index not in idle])


def spare_clauses(custom, *questions):
    """The indexes of all clauses each of which may be dropped alone, ascending."""
    asked = asked_of_both(custom, custom, questions)
    found = []
    for index in range(len(custom)):
        if Abreast(joint_of(custom, dropped(custom, index)), asked, False).parting is None:
            found.append(index)
    return tuple(found)


def _check_index(index, many):
    if not is_whole(index, 0, many - 1):
        raise NoClause(index)


def _deeds_at(custom, names, stand):
    """The deeds of these kinds that can be told apart in the stand."""
    return [deed for name in names for deed in kind_deeds(name, custom.kinds.arity_of(name), stand.persons)]


def _acting_deeds(custom, index, kind, stand):
    """The last deeds of a year that ends with an act of the clause at this moment, or None."""
    if kind == YEAR:
        return () if end_step(custom, stand.code)[0] == index else None
    for deed in _deeds_at(custom, (kind,), stand):
        if deed_step(custom, stand.code, deed)[0] == index:
            return (deed,)
    return None
