"""Layers: the placed stands in which the fillings of an abstract can stand, year by year."""

from searchback.checks import check_kinds, check_size
from searchback.errors import TooMany
from searchback.frame import Frame, lot_of
from searchback.stands import coming_stands
from searchback.trails import year_behind

MOST_PLACINGS = 4000


def placings(custom, named):
    """The number of placed stands of the custom's shape with so many named persons."""
    many = len(custom.rooms) * _placed_rows(len(custom.seats), named)
    for clock in custom.clocks:
        many = many * 2 * (clock[1] + 1)
    return many


def layers_of(custom, abstract):
    """The placed stands that can stand ahead, and behind each year of the abstract."""
    check_kinds(custom, abstract)
    check_placings(custom, len(abstract.persons))
    frame = Frame(custom, abstract.persons)
    lot = lot_ahead(frame, abstract.whole)
    yield frame.stands_in(lot)
    for entry in abstract.years:
        lot = lot_behind(frame, lot, entry)
        yield frame.stands_in(lot)


def lots_through(frame, ahead, entries):
    """The layers as lots of the frame, from the first one on."""
    lots = [ahead]
    for entry in entries:
        lots.append(lot_behind(frame, lots[-1], entry))
    return lots


def lot_ahead(frame, whole):
    """The lot of the stands that can stand ahead of the first year."""
    if whole:
        return lot_of([frame.start])
    coming = coming_stands(frame.custom)
    return lot_of([number for number in range(frame.many) if coming.is_end(frame.stand_of(number))])


def lot_behind(frame, lot, entry):
    """The lot of the stands to which a year that the entry lets leads from the lot."""
    return year_behind(frame, lot, entry.told, entry.free(frame.custom.kinds))


def check_placings(custom, named):
    """Raise TooMany if there are too many stands, or too many placed ones, to go through."""
    check_size(custom)
    count = placings(custom, named)
    if count > MOST_PLACINGS:
        raise TooMany(count)


def _placed_rows(seats, named):
    """The number of placed rows of so many seats with so many named persons.

    In the first seat sits nobody, a named person, or some other, who counts as named behind it.
    """
    if seats == 0:
        return 1
    return (named + 1) * _placed_rows(seats - 1, named) + _placed_rows(seats - 1, named + 1)
