"""How soon others, or the person, can have their way with a seat."""


class Siege:
    """How soon others can bring it about that the person does not sit in the seat at a year's end.

    Item n of `layers` has, for 0, 1, .., rest hindered years in a row just past, the lot of the
    moments from which others do so within n years. A layer follows from the one ahead of it alone,
    so the last one is the first behind which nothing changes any more.
    """

    def __init__(self, sides, seat, rest):
        self.sides = sides
        self.rest = rest
        self.seated = sides.seat_lot(seat)
        self.unseated = sides.everywhere & ~self.seated
        self.known = {}
        self.layers = [tuple([0 for _ in range(rest + 1)])]
        behind = self._behind(self.layers[0])
        while behind != self.layers[-1]:
            self.layers.append(behind)
            behind = self._behind(behind)

    def years_from(self, number, hindered):
        """The least number of years from this beginning on, or None if the person keeps the seat."""
        if (self.unseated >> number) & 1:
            return 0
        for years, layer in enumerate(self.layers):
            if (layer[hindered] >> number) & 1:
                return years
        return None

    def lost(self, years, hindered):
        """The lot of the stands at a year's end from which others win within so many years."""
        return self.unseated | self.layers[years][hindered]

    def kept(self):
        """The lot of the stands at a year's end, ahead of which nobody was hindered, that are never lost."""
        return self.seated & ~self.layers[-1][0]

    def level_of(self, number):
        """The least number of hindered years just past with which the person is safe at a moment, or None."""
        for level, lot in enumerate(self.layers[-1]):
            if not (lot >> number) & 1:
                return level
        return None

    def _behind(self, layer):
        """The layer of one year more."""
        unsaved = self.sides.unsaved(self.unseated | layer[0])
        rows = [self._forced(self.unseated | lot, unsaved) for lot in layer[1:]]
        rows.append(self._forced(0, unsaved))
        return tuple(rows)

    def _forced(self, hindered, unsaved):
        """Where others can come to a moment whose year's end leads into the one lot, or to one of the other lot."""
        key = (hindered, unsaved)
        if key not in self.known:
            self.known[key] = self.sides.forced(self.sides.ending(hindered) | unsaved)
        return self.known[key]


class Pursuit:
    """How soon the person can come to sit in the seat at a year's end, whatever others do.

    Item n of `layers` is the lot of the moments from which it does so within n years.
    """

    def __init__(self, sides, seat):
        self.sides = sides
        self.seated = sides.seat_lot(seat)
        self.layers = [0]
        behind = self._behind(0)
        while behind != self.layers[-1]:
            self.layers.append(behind)
            behind = self._behind(behind)

    def years_from(self, number):
        """The least number of years from this moment on, without regard to who sits now, or None."""
        for years, lot in enumerate(self.layers):
            if (lot >> number) & 1:
                return years
        return None

    def won(self, years):
        """The lot of the stands at a year's end from which the person has the seat within so many years."""
        return self.seated | self.layers[years]

    def _behind(self, lot):
        """The lot of one year more."""
        everywhere = self.sides.everywhere
        unsaved = self.sides.unsaved(everywhere & ~(self.seated | lot))
        return everywhere & ~self.sides.forced(unsaved)


def is_never_lost(sides, seat, number):
    """Whether the person keeps the seat from this stand though it is hindered for ever."""
    unseated = sides.everywhere & ~sides.seat_lot(seat)
    lost = unseated
    behind = unseated | sides.forced(sides.ending(lost))
    while behind != lost:
        lost = behind
        behind = unseated | sides.forced(sides.ending(lost))
    return not (lost >> number) & 1
