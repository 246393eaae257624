"""Which lots of a pool make a custom in which few enough years must be searched."""

from searchback.alike import alike_customs
from searchback.checks import check_questions
from searchback.choices import is_part
from searchback.closed import Alike
from searchback.errors import BadYears, NotParted
from searchback.labels import is_whole
from searchback.pairs import check_pairs
from searchback.searching import Endless, pasts_for, searching

MOST_LIMIT = 200


class Verdict:
    """What becomes of one lot."""

    def __init__(self, lot, word, years, found, table):
        self.lot = lot
        self.word = word
        self.years = years
        self.found = found
        self.table = table

    def __eq__(self, other):
        if not isinstance(other, Verdict) or self.lot != other.lot:
            return False
        return self.word == other.word and self.years == other.years


class Lots:
    """The verdicts of all lots of a pool."""

    def __init__(self, pool, question, years, same, verdicts):
        self.pool = pool
        self.question = question
        self.years = years
        self.same = same
        self.verdicts = tuple(verdicts)

    def __len__(self):
        return len(self.verdicts)

    def __iter__(self):
        return iter(self.verdicts)

    @property
    def good(self):
        """The good lots."""
        return _good_lots(self.verdicts)

    @property
    def least(self):
        """The good lots of which no proper part is good."""
        good = _good_lots(self.verdicts)
        return tuple([lot for lot in good if not any([one != lot and is_part(one, lot) for one in good])])

    def verdict_of(self, lot):
        """The verdict of a lot."""
        self.pool.check_lot(lot)
        return [verdict for verdict in self.verdicts if verdict.lot == tuple(lot)][0]

    def pasts_of(self, lot):
        """Two histories with the same last years behind which the amended custom answers unlike."""
        verdict = self.verdict_of(lot)
        if verdict.word not in ("endless", "far"):
            raise NotParted(tuple(lot))
        return pasts_for(self.pool.amended(lot), self.years, self.question)


def least_lots(pool, question, years, *, same=None):
    """Judge every lot of the pool for a limit of so many years."""
    check_questions(pool.custom, (question,))
    if same is not None:
        check_questions(pool.custom, (same,))
    if not is_whole(years, 0, MOST_LIMIT):
        raise BadYears(years)
    check_pairs(pool.custom)
    return Lots(pool, question, years, same, [_verdict_of(pool, lot, question, years, same) for lot in pool.lots()])


def _verdict_of(pool, lot, question, years, same):
    if pool.clash(lot) is not None:
        return Verdict(lot, "clash", None, None, None)
    if pool.is_crowded(lot):
        return Verdict(lot, "many", None, None, None)
    custom = pool.amended(lot)
    found = searching(custom, question)
    if isinstance(found, Endless):
        return Verdict(lot, "endless", None, found, None)
    if found.years > years:
        return Verdict(lot, "far", found.years, found, None)
    if same is None:
        return Verdict(lot, "good", found.years, found, None)
    table = alike_customs(pool.custom, custom, same)
    return Verdict(lot, "good" if isinstance(table, Alike) else "unlike", found.years, found, table)


def _good_lots(verdicts):
    return tuple([verdict.lot for verdict in verdicts if verdict.word == "good"])
