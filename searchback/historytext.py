"""The texts of kinds and of histories."""

from searchback.errors import BadKinds, BadText
from searchback.histories import History
from searchback.kinds import Kinds
from searchback.labels import is_label

BETWEEN_ITEMS = ", "
BETWEEN_DEEDS = "; "
EMPTY_YEAR = "-"
ARITIES = ("0", "1", "2")


def kinds_text(kinds):
    """The kinds as a text: "grant 1, sells 2"."""
    return BETWEEN_ITEMS.join([f"{name} {arity}" for name, arity in kinds.rows])


def kind_row(item):
    """The row (name, arity) that an item of such a text says, or None if it says none."""
    words = item.split(" ")
    if len(words) != 2 or not is_label(words[0]) or words[1] not in ARITIES:
        return None
    return (words[0], int(words[1]))


def parse_kinds(text):
    """The kinds that have just this text."""
    if not isinstance(text, str):
        raise BadText(0, "text")
    rows = [kind_row(item) for item in text.split(BETWEEN_ITEMS)]
    if None in rows:
        raise BadText(0, "word")
    try:
        return Kinds(rows)
    except BadKinds:
        raise BadText(0, "kinds") from None


def history_text(history):
    """The history as a text, with one row for each year."""
    return "\n".join([_year_text(year) for year in history.years])


def parse_history(kinds, text):
    """The history of these kinds that has just this text."""
    if not isinstance(text, str):
        raise BadText(0, "text")
    rows = text.split("\n") if text else []
    return History(kinds, [_parsed_year(kinds, index, row) for index, row in enumerate(rows)])


def _year_text(year):
    if not year:
        return EMPTY_YEAR
    return BETWEEN_DEEDS.join([" ".join(deed) for deed in year])


def _parsed_year(kinds, index, row):
    """The deeds of a row; the index is the one that its errors name."""
    if row == EMPTY_YEAR:
        return []
    deeds = [deed.split(" ") for deed in row.split(BETWEEN_DEEDS)]
    for deed in deeds:
        if "" in deed:
            raise BadText(index, "row")
    for deed in deeds:
        if kinds.fault(deed) is not None:
            raise BadText(index, "deed")
    return deeds
