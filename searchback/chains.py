"""How a seat came to be held, for how long, and what raised a clock."""

from searchback.checks import check_kinds, check_seat
from searchback.clauses import Put, Zero
from searchback.errors import BadClock
from searchback.labels import is_label
from searchback.walks import code_steps, end_codes


class Link:
    """A step that put something into a seat."""

    def __init__(self, year, place, clause, seat, what):
        self.year = year
        self.place = place
        self.clause = clause
        self.seat = seat
        self.what = what

    def __eq__(self, other):
        if not isinstance(other, Link) or self.year != other.year or self.place != other.place:
            return False
        return self.clause == other.clause and self.seat == other.seat and self.what == other.what


class Term:
    """The years from whose begin to whose end a seat was held by one person, or by nobody."""

    def __init__(self, person, begin, end):
        self.person = person
        self.begin = begin
        self.end = end

    def __eq__(self, other):
        if not isinstance(other, Term) or self.person != other.person:
            return False
        return self.begin == other.begin and self.end == other.end


def chain_of(custom, history, seat):
    """The links by which the seat came to be held as it is at the end, the newest first."""
    check_kinds(custom, history)
    check_seat(custom, seat)
    return tuple([Link(*row) for row in _chain_rows(custom, history, seat)])


def root_of(custom, history, seat):
    """The (year, place, person) of the deed that brought in who sits in the seat, or None."""
    check_kinds(custom, history)
    check_seat(custom, seat)
    rows = _chain_rows(custom, history, seat)
    if not rows:
        return None
    year, place, _, _, what = rows[-1]
    if what not in ("first", "second"):
        return None
    deed = history.years[year][place]
    return (year, place, deed[1] if what == "first" else deed[2])


def terms_of(custom, history, seat):
    """The terms into which the holders of the seat cut the years' ends."""
    check_kinds(custom, history)
    check_seat(custom, seat)
    at = custom.seats.index(seat)
    holders = [code[1][at] for code in end_codes(custom, history)]
    terms = []
    begin = 0
    for end, holder in enumerate(holders):
        if end + 1 == len(holders) or holders[end + 1] != holder:
            terms.append(Term(holder, begin, end))
            begin = end + 1
    return tuple(terms)


def counted_years(custom, history, clock):
    """The years whose ends raised the clock to the number that it has at the end."""
    check_kinds(custom, history)
    names = [row[0] for row in custom.clocks]
    if not is_label(clock) or clock not in names:
        raise BadClock(clock)
    at = names.index(clock)
    cap = custom.clocks[at][1]
    zeroing = [Zero(clock) in clause.changes for clause in custom.clauses]
    counted = []
    number, running = custom.start.clocks[at]
    for year, _, deed, clause, code in code_steps(custom, history):
        if deed is None and running and number < cap:
            counted.append(year)
        if clause is not None and zeroing[clause]:
            counted = []
        number, running = code[2][at]
    return tuple(counted)


def _chain_rows(custom, history, seat):
    """The fields of the links of the chain, the newest first.

    Each link that is met is kept with the number of the link that it leads back to, so that one
    walk forward is enough.
    """
    puts = [[change for change in clause.changes if isinstance(change, Put)] for clause in custom.clauses]
    links = []
    newest = {}
    for year, place, _, clause, _ in code_steps(custom, history):
        if clause is not None:
            # All puts of a clause read the seats ahead of the step.
            sources = [newest.get(put.what) for put in puts[clause]]
            for put, source in zip(puts[clause], sources):
                newest[put.seat] = len(links)
                links.append((year, place, clause, put.seat, put.what, source))
    rows = []
    at = newest.get(seat)
    while at is not None:
        rows.append(links[at][:5])
        at = links[at][5]
    return rows
