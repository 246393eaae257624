"""Deeds that can be left out of a history."""

from searchback.checks import check_kinds
from searchback.customs import deed_step, end_step
from searchback.errors import BadSpot
from searchback.histories import history_of
from searchback.labels import is_sequence, is_whole
from searchback.walks import code_behind, code_steps


class YearTrial:
    """Tries what happens at a year's end if deeds of the year are left out.

    `is_left` tells for each place whether its deed is still there, and `known` holds, for each
    place and the codes that were tried there, whether what is left from there on leads to the
    end of the whole year. So no stand is led on twice from the same place.
    """

    def __init__(self, custom, code, year):
        self.custom = custom
        self.year = year
        self.start = code
        self.right_end = code_behind(custom, code, year)
        self.is_left = [True for _ in year]
        self.known = [{} for _ in range(len(year) + 1)]

    def spare_places(self):
        """The places of the deeds each of which may be left out alone, ascending."""
        found = []
        code = self.start
        for place in range(len(self.year)):
            if self.is_right(place + 1, code):
                found.append(place)
            code = self.led(place, code)
        return found

    def lean_year(self):
        """The deeds that are left if the first spare deed is left out until none is spare.

        For each place `before` has the code ahead of it, and `others` the codes ahead of it if
        one earlier deed is left out alone, each with the first such place, ascending.
        """
        before = [self.start]
        others = [{}]
        place = 0
        while place < len(self.year):
            out = place if self.is_left[place] and self.is_right(place + 1, before[place]) else None
            while out is not None:
                self.leave_out(out)
                place = out
                # A deed that was needed beside the one that is gone may be spare without it.
                out = self.first_spare(place, others[place])
            before[place + 1:] = [self.led(place, before[place])]
            others[place + 1:] = [self.led_others(place, before[place], others[place])]
            place += 1
        return tuple([deed for deed, left in zip(self.year, self.is_left) if left])

    def first_spare(self, place, others):
        """The place of the first deed ahead of this place that is spare, or None."""
        for code, out in others.items():
            if self.is_right(place, code):
                return out
        return None

    def led_others(self, place, before, others):
        """The other codes ahead of the next place."""
        moved = {}
        for code, out in others.items():
            moved.setdefault(self.led(place, code), out)
        if self.is_left[place]:
            moved.setdefault(before, place)
        return moved

    def leave_out(self, place):
        """Leave out a deed; what was known up to its place speaks of another year."""
        self.is_left[place] = False
        self.known[:place + 1] = [{} for _ in range(place + 1)]

    def led(self, place, code):
        """The code behind this place."""
        if not self.is_left[place]:
            return code
        return deed_step(self.custom, code, self.year[place])[1]

    def is_right(self, place, code):
        """Whether what is left from this place on leads from the code to the right end."""
        tried = []
        while place < len(self.year) and code not in self.known[place]:
            tried.append((place, code))
            code = self.led(place, code)
            place += 1
        if code not in self.known[place]:
            self.known[place][code] = end_step(self.custom, code)[1] == self.right_end
        right = self.known[place][code]
        for at, met in tried:
            self.known[at][met] = right
        return right


def void_deeds(custom, history):
    """The spots of the deeds that no clause fits, ascending."""
    check_kinds(custom, history)
    return tuple([
        (year, place) for year, place, deed, clause, _ in code_steps(custom, history)
        if deed is not None and clause is None
    ])


def without_deeds(history, spots):
    """The history without the deeds at these spots."""
    barred = {}
    for index, spot in enumerate(spots):
        if not _is_spot(history, spot) or (spot[0], spot[1]) in barred:
            raise BadSpot(index)
        barred[(spot[0], spot[1])] = True
    years = []
    for index, year in enumerate(history.years):
        years.append(tuple([deed for place, deed in enumerate(year) if (index, place) not in barred]))
    return history_of(history.kinds, tuple(years))


def spare_deeds(custom, history):
    """The spots of the deeds each of which may be left out alone, ascending."""
    check_kinds(custom, history)
    found = []
    code = custom.start.code
    for index, year in enumerate(history.years):
        trial = YearTrial(custom, code, year)
        found.extend([(index, place) for place in trial.spare_places()])
        code = trial.right_end
    return tuple(found)


def lean_history(custom, history):
    """The history that is left if the first spare deed is left out until none is spare.

    A deed is spare if its year ends as it did, so each year can be made lean alone.
    """
    check_kinds(custom, history)
    years = []
    code = custom.start.code
    for year in history.years:
        trial = YearTrial(custom, code, year)
        years.append(trial.lean_year())
        code = trial.right_end
    return history_of(history.kinds, tuple(years))


def _is_spot(history, spot):
    """Whether the thing is a year and a place at which a deed stands."""
    if not is_sequence(spot) or len(spot) != 2:
        return False
    if not is_whole(spot[0], 0, len(history) - 1):
        return False
    return is_whole(spot[1], 0, len(history.years[spot[0]]) - 1)
