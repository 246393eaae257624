"""Pools: a custom with some amendments, of which any lot can be chosen."""

from searchback.amendments import Amendment, Drop, Limit, PutIn, limited_clause
from searchback.choices import lots_of
from searchback.customs import MOST_CLAUSES, Custom
from searchback.errors import BadLot, BadPool, Clash
from searchback.labels import is_sequence, is_whole

MOST_AMENDMENTS = 4


class Pool:
    """A custom and one to four amendments that fit it."""

    def __init__(self, custom, amendments):
        if not isinstance(custom, Custom):
            raise BadPool(0, "custom")
        if not is_sequence(amendments) or not 1 <= len(amendments) <= MOST_AMENDMENTS:
            raise BadPool(0, "amendments")
        for index, amendment in enumerate(amendments):
            if not isinstance(amendment, Amendment):
                raise BadPool(index, "amendment")
            if amendment in amendments[:index]:
                raise BadPool(index, "double")
            word = amendment.fault(custom)
            if word is not None:
                raise BadPool(index, word)
        self.custom = custom
        self.amendments = tuple(amendments)

    def __eq__(self, other):
        return isinstance(other, Pool) and self.custom == other.custom and self.amendments == other.amendments

    def __len__(self):
        return len(self.amendments)

    def __iter__(self):
        return iter(self.amendments)

    def lots(self):
        """All lots of the pool: shorter ones first, then as tuples are ordered."""
        for lot in lots_of(list(range(len(self.amendments)))):
            yield lot

    def check_lot(self, lot):
        """Raise BadLot unless this is an ascending sequence of indexes of amendments."""
        if not is_sequence(lot):
            raise BadLot("lot")
        least = 0
        for index in lot:
            if not is_whole(index, least, len(self.amendments) - 1):
                raise BadLot("lot")
            least = index + 1

    def clash(self, lot):
        """The first two amendments of the lot that touch one clause, or None."""
        self.check_lot(lot)
        for place, first in enumerate(lot):
            for second in lot[place + 1:]:
                touched = self.amendments[second].touched
                if any([index in touched for index in self.amendments[first].touched]):
                    return (first, second)
        return None

    def amended(self, lot):
        """The custom that the lot makes."""
        pair = self.clash(lot)
        if pair is not None:
            raise Clash(pair[0], pair[1])
        clauses = self._clauses_of([self.amendments[index] for index in lot])
        if len(clauses) > MOST_CLAUSES:
            raise BadLot("many")
        return self.custom.with_clauses(clauses)

    def is_crowded(self, lot):
        """Whether a lot without a clash would make more clauses than a custom can have."""
        return len(self._clauses_of([self.amendments[index] for index in lot])) > MOST_CLAUSES

    def _clauses_of(self, chosen):
        """The clauses that these amendments make, which touch no clause twice."""
        standing = [[clause] for clause in self.custom.clauses]
        put_in = [[] for _ in range(len(standing) + 1)]
        for amendment in chosen:
            if isinstance(amendment, PutIn):
                put_in[amendment.place].append(amendment.clause)
            elif isinstance(amendment, Drop):
                standing[amendment.clause] = []
            elif isinstance(amendment, Limit):
                old = self.custom.clauses[amendment.clause]
                standing[amendment.clause] = [limited_clause(old, amendment.condition, amendment.limit)]
            else:
                at = amendment.clause
                standing[at], standing[at + 1] = standing[at + 1], standing[at]
        rows = [*standing, []]
        return [clause for place, more in enumerate(put_in) for clause in (*more, *rows[place])]
