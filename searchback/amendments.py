"""Amendments: changes of the clauses of a custom."""

from searchback.clauses import MOST_CONDITIONS, AtLeast, Below, Clause
from searchback.customs import MOST_CLAUSES
from searchback.errors import BadAmendment, BadCustom
from searchback.labels import is_whole
from searchback.stand import GREATEST_NUMBER


class Amendment:
    """The base of the amendments."""

    def __eq__(self, other):
        return isinstance(other, Amendment) and self.__class__.__name__ == other.__class__.__name__

    @property
    def touched(self):
        """The indexes of the clauses that the amendment touches, ascending."""
        return ()

    def fault(self, custom):
        """None if the amendment fits the custom, else the word for why not."""
        return _touched_fault(self, custom)


class Drop(Amendment):
    """Leaves out a clause."""

    def __init__(self, clause):
        if not is_whole(clause, 0, MOST_CLAUSES - 1):
            raise BadAmendment("clause")
        self.clause = clause

    def __eq__(self, other):
        return isinstance(other, Drop) and self.clause == other.clause

    @property
    def touched(self):
        """The clause."""
        return (self.clause,)

    def fault(self, custom):
        """None if the amendment fits the custom, else the word for why not."""
        return _touched_fault(self, custom)


class PutIn(Amendment):
    """Puts a new clause in front of the one at this place, or behind the last one."""

    def __init__(self, place, clause):
        if not is_whole(place, 0, MOST_CLAUSES):
            raise BadAmendment("place")
        if not isinstance(clause, Clause):
            raise BadAmendment("clause")
        self.place = place
        self.clause = clause

    def __eq__(self, other):
        return isinstance(other, PutIn) and self.place == other.place and self.clause == other.clause

    @property
    def touched(self):
        """None of the clauses."""
        return ()

    def fault(self, custom):
        """None if the amendment fits the custom, else the word for why not."""
        if self.place > len(custom):
            return "place"
        try:
            custom.with_clauses((self.clause,))
        except BadCustom:
            return "clause"
        return None


class Limit(Amendment):
    """Gives a condition of a clause another number."""

    def __init__(self, clause, condition, limit):
        if not is_whole(clause, 0, MOST_CLAUSES - 1):
            raise BadAmendment("clause")
        if not is_whole(condition, 0, MOST_CONDITIONS - 1):
            raise BadAmendment("condition")
        if not is_whole(limit, 1, GREATEST_NUMBER):
            raise BadAmendment("limit")
        self.clause = clause
        self.condition = condition
        self.limit = limit

    def __eq__(self, other):
        if not isinstance(other, Limit) or self.clause != other.clause:
            return False
        return self.condition == other.condition and self.limit == other.limit

    @property
    def touched(self):
        """The clause."""
        return (self.clause,)

    def fault(self, custom):
        """None if the amendment fits the custom, else the word for why not."""
        word = _touched_fault(self, custom)
        if word is not None:
            return word
        conditions = custom.clauses[self.clause].conditions
        if self.condition >= len(conditions) or not isinstance(conditions[self.condition], (AtLeast, Below)):
            return "condition"
        caps = {clock[0]: clock[1] for clock in custom.clocks}
        return "limit" if self.limit > caps[conditions[self.condition].clock] else None


class Swap(Amendment):
    """Exchanges a clause and the next one."""

    def __init__(self, clause):
        if not is_whole(clause, 0, MOST_CLAUSES - 2):
            raise BadAmendment("clause")
        self.clause = clause

    def __eq__(self, other):
        return isinstance(other, Swap) and self.clause == other.clause

    @property
    def touched(self):
        """The clause and the next one."""
        return (self.clause, self.clause + 1)

    def fault(self, custom):
        """None if the amendment fits the custom, else the word for why not."""
        return _touched_fault(self, custom)


def limited_clause(clause, index, limit):
    """The clause with another number in one of its conditions.

    If another condition is equal to the changed one, the clause keeps only that other one.
    """
    old = clause.conditions[index]
    new = AtLeast(old.clock, limit) if isinstance(old, AtLeast) else Below(old.clock, limit)
    others = [*clause.conditions[:index], *clause.conditions[index + 1:]]
    if new in others:
        return Clause(clause.kind, others, clause.changes)
    return Clause(clause.kind, (*clause.conditions[:index], new, *clause.conditions[index + 1:]), clause.changes)


def _touched_fault(amendment, custom):
    return None if all([index < len(custom) for index in amendment.touched]) else "clause"
