"""Rows of seats and of clocks that can be told apart, and the deeds that can be in a stand.

Some persons may be named: they keep their labels. All others are called, in the order of their
first seats, by the first labels that no named one has. A row of seats called so is *placed*; if
nobody is named, it is plain.
"""

from searchback.labels import fresh_labels


def seatings(many, named=()):
    """All placed rows of so many seats.

    Compared seat by seat, nobody comes first, then the named ones, then the others.
    """
    labels = fresh_labels(named, many)
    rows = [()]
    for _ in range(many):
        rows = [(*row, person) for row in rows for person in _next_sitters(row, named, labels)]
    return rows


def placed_names(seats, named=()):
    """For each person who sits what it is called in the placed row, in the order of the seats."""
    seated = sitters(seats)
    others = [person for person in seated if person not in named]
    labels = dict(zip(others, fresh_labels(named, len(others))))
    return {person: labels.get(person, person) for person in seated}


def placed(seats, named=()):
    """The placed row of these seats."""
    return called(seats, placed_names(seats, named))


def called(seats, names):
    """The seats with each person replaced by what it leads to."""
    return tuple([None if person is None else names[person] for person in seats])


def clock_rows(clocks):
    """All that the clocks of a custom can show.

    The first clock counts most, each by its number, and halted comes ahead of running.
    """
    rows = [()]
    for clock in clocks:
        shown = [(number, running) for number in range(clock[1] + 1) for running in (False, True)]
        rows = [(*row, reading) for row in rows for reading in shown]
    return rows


def kind_deeds(name, arity, persons):
    """The deeds of one kind by these persons and strangers; two strangers are enough.

    The order is that of the persons with the first stranger behind them, the first person of a
    deed counting most; the deed of the two strangers comes last.
    """
    one, two = fresh_labels(persons, 2)
    everyone = (*persons, one)
    if arity == 0:
        return [(name,)]
    if arity == 1:
        return [(name, person) for person in everyone]
    return [*[(name, first, second) for first in everyone for second in everyone], (name, one, two)]


def sitters(seats):
    """Those who sit in the seats, each once, in the order of their first seats."""
    found = {}
    for person in seats:
        if person is not None:
            found[person] = True
    return tuple(found)


def _next_sitters(row, named, labels):
    """Who can sit behind a placed row of seats, so that it stays placed."""
    others = [person for person in sitters(row) if person not in named]
    return (None, *named, *others, labels[len(others)])
