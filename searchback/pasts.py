"""Histories that part: two pasts with common years, or with a ring of years."""

from searchback.checks import check_asking
from searchback.errors import BadHistory, BadPasts, BadRings, BadTurns, BadYears
from searchback.histories import MOST_DEEDS, MOST_YEARS, History, history_of
from searchback.labels import is_count, is_whole
from searchback.pairs import codes_unlike
from searchback.walks import code_behind

MOST_TURNS = 10000


class Pasts:
    """Two histories, and a row of common years that follows on both."""

    def __init__(self, one, other, years):
        word = _histories_fault(one, other)
        if word is not None:
            raise BadPasts(word)
        common = _years_of(one.kinds, years)
        if common is None:
            raise BadPasts("years")
        self.one = one
        self.other = other
        self.years = common.years

    def __len__(self):
        return len(self.years)

    def histories(self):
        """Both whole histories, each with the common years behind it."""
        common = history_of(self.one.kinds, self.years)
        return (self.one.joined(common), self.other.joined(common))


class Rings:
    """Two histories, years that lead from their ends back to these ends, and a tail of years."""

    def __init__(self, one, other, ring, tail):
        word = _histories_fault(one, other)
        if word is not None:
            raise BadRings(word)
        turn = _years_of(one.kinds, ring)
        if turn is None or len(turn) == 0:
            raise BadRings("ring")
        last = _years_of(one.kinds, tail)
        if last is None:
            raise BadRings("tail")
        self.one = one
        self.other = other
        self.ring = turn.years
        self.tail = last.years

    def __len__(self):
        return len(self.ring)

    def written(self, turns):
        """Both histories, each with so many turns of the ring and then the tail."""
        if not is_whole(turns, 0, MOST_TURNS):
            raise BadTurns(turns)
        for history in (self.one, self.other):
            deeds = history.deed_count + turns * _deeds_in(self.ring) + _deeds_in(self.tail)
            if len(history) + self.common_years(turns) > MOST_YEARS or deeds > MOST_DEEDS:
                raise BadHistory(0, 0, "many")
        common = history_of(self.one.kinds, (*(self.ring * turns), *self.tail))
        return (self.one.joined(common), self.other.joined(common))

    def common_years(self, turns):
        """How many last years the two written histories surely have in common."""
        if not is_count(turns):
            raise BadTurns(turns)
        return turns * len(self.ring) + len(self.tail)

    def turns_for(self, years):
        """The least number of turns for which at least so many last years are common."""
        if not is_count(years):
            raise BadYears(years)
        return max(0, (years - len(self.tail) + len(self.ring) - 1) // len(self.ring))


def pasts_fault(custom, pasts, question, *more, without=()):
    """None if the whole histories answer unlike, else the word for why not."""
    questions = (question, *more)
    check_asking(custom, questions, without)
    if not isinstance(pasts, Pasts):
        return "pasts"
    if pasts.one.kinds != custom.kinds:
        return "kinds"
    if _names_kind(pasts.years, without):
        return "without"
    one, other = [_led_code(custom, _last_code(custom, past), pasts.years) for past in (pasts.one, pasts.other)]
    return None if codes_unlike(custom, one, other, questions) else "alike"


def rings_fault(custom, rings, question, *more, without=()):
    """None if the rings show that the questions are endless, else the word for why not."""
    questions = (question, *more)
    check_asking(custom, questions, without)
    if not isinstance(rings, Rings):
        return "rings"
    if rings.one.kinds != custom.kinds:
        return "kinds"
    if _names_kind((*rings.ring, *rings.tail), without):
        return "without"
    one, other = _last_code(custom, rings.one), _last_code(custom, rings.other)
    if _led_code(custom, one, rings.ring) != one:
        return "one"
    if _led_code(custom, other, rings.ring) != other:
        return "other"
    one, other = _led_code(custom, one, rings.tail), _led_code(custom, other, rings.tail)
    return None if codes_unlike(custom, one, other, questions) else "alike"


def _histories_fault(one, other):
    """The word for why these are not two histories of the same kinds, or None."""
    if not isinstance(one, History):
        return "one"
    if not isinstance(other, History):
        return "other"
    return None if one.kinds == other.kinds else "kinds"


def _years_of(kinds, years):
    """The history of these years, or None if they are no years of these kinds."""
    try:
        return History(kinds, years)
    except BadHistory:
        return None


def _deeds_in(years):
    return sum([len(year) for year in years])


def _names_kind(years, names):
    """Whether some deed of the years is of one of these kinds."""
    return any([deed[0] in names for year in years for deed in year])


def _last_code(custom, history):
    return _led_code(custom, custom.start.code, history.years)


def _led_code(custom, code, years):
    for year in years:
        code = code_behind(custom, code, year)
    return code
