"""Plans of one person, and of all others, for a seat."""

from searchback.errors import BadPaper, NoRow
from searchback.labels import fresh_labels, is_count, is_label, is_positive, is_sequence
from searchback.rounds import marked_stand
from searchback.stand import Stand

MOST_PERSONS_OF_A_DEED = 2


class Keeps:
    """How the person keeps the seat: for moments a level, and the own row to be done there."""

    def __init__(self, rest, rows):
        if not is_count(rest) or not _are_rows(rows, 3):
            raise BadPaper()
        for stand, level, own in rows:
            if not isinstance(stand, Stand) or not is_count(level) or not _are_deeds(own):
                raise BadPaper()
        self.rest = rest
        self.rows = tuple([(stand, level, _as_deeds(own)) for stand, level, own in rows])

    def own_row(self, stand, person):
        """The own row at a stand, with the persons called as there."""
        return _own_row(self.rows, stand, person)


class Loses:
    """How others bring it about that the person does not sit in the seat within so many years."""

    def __init__(self, rest, years, rows):
        if not is_count(rest) or not is_count(years) or not _are_rows(rows, 5):
            raise BadPaper()
        for stand, hindered, left, others, hinder in rows:
            if not isinstance(stand, Stand) or not is_count(hindered) or not is_positive(left):
                raise BadPaper()
            if not _are_deeds(others) or not isinstance(hinder, bool):
                raise BadPaper()
        self.rest = rest
        self.years = years
        self.rows = tuple([
            (stand, hindered, left, _as_deeds(others), hinder)
            for stand, hindered, left, others, hinder in rows
        ])

    def others_row(self, stand, person, hindered):
        """Others' row at a stand behind so many hindered years, and whether they hinder."""
        marked = marked_stand(stand, person)
        for held, past, _, others, hinder in self.rows:
            if held == marked and past == hindered:
                return (_called_deeds(others, held, stand, person), hinder)
        raise NoRow()


class Gets:
    """How the person gets the seat within so many years."""

    def __init__(self, years, rows):
        if not is_count(years) or not _are_rows(rows, 3):
            raise BadPaper()
        for stand, left, own in rows:
            if not isinstance(stand, Stand) or not is_positive(left) or not _are_deeds(own):
                raise BadPaper()
        self.years = years
        self.rows = tuple([(stand, left, _as_deeds(own)) for stand, left, own in rows])

    def own_row(self, stand, person):
        """The own row at a stand, with the persons called as there."""
        return _own_row(self.rows, stand, person)


class Never:
    """How others bring it about that the person never gets the seat."""

    def __init__(self, rows):
        if not _are_rows(rows, 2):
            raise BadPaper()
        for stand, others in rows:
            if not isinstance(stand, Stand) or not _are_deeds(others):
                raise BadPaper()
        self.rows = tuple([(stand, _as_deeds(others)) for stand, others in rows])

    def others_row(self, stand, person):
        """Others' row at a stand, with the persons called as there."""
        marked = marked_stand(stand, person)
        for held, others in self.rows:
            if held == marked:
                return _called_deeds(others, held, stand, person)
        raise NoRow()


def _own_row(rows, stand, person):
    """The own row of the first row of the marked stand, with the persons called as in the stand."""
    marked = marked_stand(stand, person)
    for held, _, own in rows:
        if held == marked:
            return _called_deeds(own, held, stand, person)
    raise NoRow()


def _are_rows(rows, length):
    """Whether this is a sequence of sequences of this length."""
    return is_sequence(rows) and all([is_sequence(row) and len(row) == length for row in rows])


def _are_deeds(deeds):
    """Whether this has the shape of a row of deeds."""
    return is_sequence(deeds) and all([_is_deed(deed) for deed in deeds])


def _is_deed(deed):
    if not is_sequence(deed) or not 1 <= len(deed) <= 1 + MOST_PERSONS_OF_A_DEED:
        return False
    return all([is_label(word) for word in deed])


def _as_deeds(deeds):
    return tuple([tuple(deed) for deed in deeds])


def _called_deeds(deeds, marked, stand, person):
    """The deeds of a row of the marked stand, with the persons called as in the stand."""
    names = dict(zip(marked.persons, stand.persons))
    names[person] = person
    named = [label for deed in deeds for label in deed[1:]]
    others = list({label: True for label in named if label not in names})
    for other, fresh in zip(others, fresh_labels((*stand.persons, person), len(others))):
        names[other] = fresh
    return tuple([(deed[0], *[names[label] for label in deed[1:]]) for deed in deeds])
