"""Plain rows of seats, and the deeds that can be told apart in a stand."""

from searchback.labels import fresh_labels, label_at


def seatings(many):
    """All plain rows of so many seats; compared seat by seat, nobody comes first, then a, b, c."""
    rows = [()]
    for _ in range(many):
        rows = [(*row, person) for row in rows for person in _next_sitters(row)]
    return rows


def kind_deeds(name, arity, persons):
    """The deeds of one kind by these persons and strangers; two strangers are enough.

    The order is that of the persons with the first stranger behind them, the first person of a
    deed counting most; the deed of the two strangers comes last.
    """
    one, two = fresh_labels(persons, 2)
    everyone = (*persons, one)
    if arity == 0:
        return [(name,)]
    if arity == 1:
        return [(name, person) for person in everyone]
    return [*[(name, first, second) for first in everyone for second in everyone], (name, one, two)]


def sitters(seats):
    """Those who sit in the seats, each once, in the order of their first seats."""
    found = {}
    for person in seats:
        if person is not None:
            found[person] = True
    return tuple(found)


def _next_sitters(row):
    """Who can sit behind a plain row of seats, so that it stays plain."""
    seated = sitters(row)
    return (None, *seated, label_at(len(seated)))
