"""Stands that can come, and histories that end in them."""

from searchback.checks import check_size, check_stand
from searchback.customs import deed_step, end_step
from searchback.errors import BadYears, NoStand
from searchback.frame import Frame, lot_of, numbers_in
from searchback.histories import history_of
from searchback.labels import fresh_labels, is_whole
from searchback.patterns import deeds_over
from searchback.shapes import placed, sitters
from searchback.stand import Stand
from searchback.trails import played_deeds, played_years, year_behind, years_back

MOST_EXACTLY = 200
MOST_AFTER = 1000000000000000000


class Coming:
    """The stands of a custom that come at year's ends and at moments.

    Beside what the document lists, `frame` has the plain stands, and `end_lots` and
    `moment_lots` have for each number of years the lot of those that come first behind so many.
    """

    def __init__(self, custom):
        self.custom = custom
        self.frame = Frame(custom)
        end_lots = []
        moment_lots = []
        ends = 0
        moments = 0
        new = lot_of([self.frame.start])
        while new > 0:
            reached = self.frame.reached(new, custom.kinds.names)
            end_lots.append(new)
            moment_lots.append(reached & ~moments)
            ends = ends | new
            moments = moments | reached
            new = self.frame.ended(moment_lots[-1]) & ~ends
        self.end_lots = tuple(end_lots)
        self.moment_lots = tuple(moment_lots)
        self.ends = self.frame.stands_in(ends)
        self.moments = self.frame.stands_in(moments)

    def __len__(self):
        return len(self.moments)

    def __iter__(self):
        return iter(self.moments)

    def is_end(self, stand):
        """Whether the stand comes at a year's end."""
        return self.years_to(stand) is not None

    def is_moment(self, stand):
        """Whether the stand comes at a moment."""
        return self.years_ahead(stand) is not None

    def years_to(self, stand):
        """The least number of years of a history that ends in the stand, or None."""
        return _first_with(self.end_lots, self._number_of(stand))

    def years_ahead(self, stand):
        """The least number of whole years ahead of a moment at which the stand comes, or None."""
        return _first_with(self.moment_lots, self._number_of(stand))

    def history_to(self, stand, *, exactly=None):
        """A history of the least number of years, or of just so many, that ends in the stand."""
        number = self._number_of(stand)
        if exactly is None:
            years = _first_with(self.end_lots, number)
            lots = self.end_lots
        else:
            if not is_whole(exactly, 0, MOST_EXACTLY):
                raise BadYears(exactly)
            years = exactly
            lots = self._lots_of(exactly)
        if years is None or not (lots[years] >> number) & 1:
            raise NoStand()
        free = [((), self.custom.kinds.names) for _ in range(years)]
        rows = years_back(self.frame, lots[:years], free, number)[1]
        return self._named_as(stand, rows, ())[0]

    def way_to(self, stand):
        """A history, and deeds of its next year that lead to the stand."""
        number = self._number_of(stand)
        years = _first_with(self.moment_lots, number)
        if years is None:
            raise NoStand()
        free = [((), self.custom.kinds.names) for _ in range(years)]
        path = self.frame.path(self.end_lots[years], self.custom.kinds.names, number)
        rows = years_back(self.frame, self.end_lots[:years], free, path[0])[1]
        return self._named_as(stand, rows, [(None, to) for to in path[1:]])

    def _number_of(self, stand):
        check_stand(self.custom, stand)
        return self.frame.number_of(stand.code)

    def _lots_of(self, years):
        """For each number of years up to this one the lot of the stands behind just so many."""
        lots = [lot_of([self.frame.start])]
        for _ in range(years):
            lots.append(year_behind(self.frame, lots[-1], (), self.custom.kinds.names))
        return lots

    def _named_as(self, stand, rows, last):
        """The history of these years and the deeds of the last steps, with the persons of the stand."""
        kinds = self.custom.kinds
        free = [((), kinds.names) for _ in rows]
        years, code = played_years(self.frame, self.custom.start.code, rows, free)
        deeds, code = played_deeds(self.frame, code, last, kinds.names)
        played = history_of(kinds, (*years, deeds))
        names = dict(zip(sitters(code[1]), stand.persons))
        others = [person for person in played.persons if person not in names]
        for person, label in zip(others, fresh_labels(stand.persons, len(others))):
            names[person] = label
        named = played.renamed(names)
        return (named.first(len(rows)), named.years[-1])


class Leaving:
    """The first step out of a lot of stands; for the start alone there is neither stand nor deed."""

    def __init__(self, stand, deed, behind):
        self.stand = stand
        self.deed = deed
        self.behind = behind

    def __eq__(self, other):
        if not isinstance(other, Leaving) or self.stand != other.stand:
            return False
        return self.deed == other.deed and self.behind == other.behind


def coming_stands(custom):
    """The stands that come at year's ends and at moments."""
    check_size(custom)
    return Coming(custom)


def stands_after(custom, years):
    """The plain stands that can stand at the end of a history of exactly so many years."""
    if not is_whole(years, 0, MOST_AFTER):
        raise BadYears(years)
    check_size(custom)
    frame = Frame(custom)
    kinds = custom.kinds.names
    ways = {}
    waiting = [frame.start]
    while waiting:
        number = waiting.pop()
        if number not in ways:
            ways[number] = year_behind(frame, lot_of([number]), (), kinds)
            waiting.extend(numbers_in(ways[number]))
    lot = lot_of([frame.start])
    # The ways of twice as many years are made of two of those there are.
    while years > 0:
        if years & 1:
            lot = _led_lot(lot, ways)
        years = years >> 1
        if years > 0:
            once = ways
            ways = {number: _led_lot(once[number], once) for number in list(once)}
    return frame.stands_in(lot)


def leaving(custom, stands):
    """None if no step leads out of the lot of these stands, which has the start, too."""
    for stand in stands:
        check_stand(custom, stand)
    lot = {_plain_code(stand.code): True for stand in stands}
    if custom.start.code not in lot:
        return Leaving(None, None, custom.start)
    for stand in stands:
        step = _step_out(custom, stand, lot)
        if step is not None:
            return step
    return None


def _first_with(lots, number):
    """The place of the first of the lots that has the stand of this number, or None."""
    for place, lot in enumerate(lots):
        if (lot >> number) & 1:
            return place
    return None


def _led_lot(lot, ways):
    behind = 0
    for number in numbers_in(lot):
        behind = behind | ways[number]
    return behind


def _plain_code(code):
    room, seats, clocks = code
    return (room, placed(seats), clocks)


def _step_out(custom, stand, lot):
    """The first step from the stand that leads out of the lot, or None."""
    for deed in deeds_over(custom.kinds, stand.persons):
        code = deed_step(custom, stand.code, deed)[1]
        if _plain_code(code) not in lot:
            return Leaving(stand, deed, Stand(*code))
    code = end_step(custom, stand.code)[1]
    if _plain_code(code) not in lot:
        return Leaving(stand, None, Stand(*code))
    return None
