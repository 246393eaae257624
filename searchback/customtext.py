"""The text of a custom."""

from searchback.clauses import (
    Apart, AtLeast, Below, Clause, Halt, InRoom, Is, IsNot, NotInRoom, Put, Run, SamePerson, ToRoom, Zero,
)
from searchback.customs import Custom
from searchback.errors import BadText, SearchError
from searchback.historytext import BETWEEN_ITEMS, kind_row, kinds_text
from searchback.kinds import Kinds
from searchback.labels import is_label

# In a form a word of small letters and the digit 0 stand for themselves, R, S, W and C for a
# label (a room, a seat, a what, a clock), and N for a number. No text has two of the forms.
CONDITION_FORMS = (
    "in R", "not in R", "S is W", "S is not W", "same", "apart", "C at least N", "C below N",
)
CHANGE_FORMS = ("move to R", "S becomes W", "C to 0", "C runs", "C halts")
CLOCK_FORMS = ("clock C N runs", "clock C N halts")
LABEL_PLACES = ("R", "S", "W", "C")
NUMBER_PLACE = "N"
LIST_HEADS = ("kinds ", "rooms ", "seats ")
NO_CHANGES = "nothing"
MOST_DIGITS = 3


def custom_text(custom):
    """The custom as a text, with a row for each clock and each clause."""
    rows = [
        "kinds " + kinds_text(custom.kinds),
        "rooms " + BETWEEN_ITEMS.join(custom.rooms),
        "seats " + BETWEEN_ITEMS.join(custom.seats),
    ]
    for name, cap, running in custom.clocks:
        rows.append(_filled_form(CLOCK_FORMS[0 if running else 1], (name, cap)))
    rows.extend([_clause_text(clause) for clause in custom.clauses])
    return "\n".join(rows)


def parse_custom(text):
    """The custom that has just this text."""
    if not isinstance(text, str):
        raise BadText(0, "text")
    rows = text.split("\n")
    lists = [_list_items(rows, index) for index in range(len(LIST_HEADS))]
    clocks = []
    at = len(LIST_HEADS)
    while at < len(rows) and _read_form(CLOCK_FORMS, rows[at]) is not None:
        clocks.append(_read_form(CLOCK_FORMS, rows[at]))
        at += 1
    clauses = []
    for index in range(at, len(rows)):
        parsed = _read_clause(rows[index])
        if parsed is None:
            raise BadText(index, "row")
        clauses.append(parsed)
    try:
        return _made_custom(lists, clocks, clauses)
    except SearchError:
        raise BadText(0, "custom") from None


def _clause_text(clause):
    head = clause.kind
    if clause.conditions:
        head = head + " if " + BETWEEN_ITEMS.join([_condition_text(held) for held in clause.conditions])
    changes = BETWEEN_ITEMS.join([_change_text(change) for change in clause.changes])
    return head + ": " + (changes if clause.changes else NO_CHANGES)


def _condition_text(condition):
    if isinstance(condition, InRoom):
        return _filled_form("in R", (condition.room,))
    if isinstance(condition, NotInRoom):
        return _filled_form("not in R", (condition.room,))
    if isinstance(condition, Is):
        return _filled_form("S is W", (condition.seat, condition.what))
    if isinstance(condition, IsNot):
        return _filled_form("S is not W", (condition.seat, condition.what))
    if isinstance(condition, AtLeast):
        return _filled_form("C at least N", (condition.clock, condition.number))
    if isinstance(condition, Below):
        return _filled_form("C below N", (condition.clock, condition.number))
    return "same" if isinstance(condition, SamePerson) else "apart"


def _change_text(change):
    if isinstance(change, ToRoom):
        return _filled_form("move to R", (change.room,))
    if isinstance(change, Put):
        return _filled_form("S becomes W", (change.seat, change.what))
    if isinstance(change, Zero):
        return _filled_form("C to 0", (change.clock,))
    return _filled_form("C runs" if isinstance(change, Run) else "C halts", (change.clock,))


def _is_place(word):
    return word in LABEL_PLACES or word == NUMBER_PLACE


def _filled_form(form, entries):
    """The form with the entries in its places, in their order."""
    words = []
    used = 0
    for word in form.split(" "):
        if _is_place(word):
            word = str(entries[used])
            used += 1
        words.append(word)
    return " ".join(words)


def _read_form(forms, text):
    """The pair (form, entries) of the form that the text has, or None if it has none of them."""
    words = text.split(" ")
    for form in forms:
        marks = form.split(" ")
        if len(marks) == len(words) and all([_fits(mark, word) for mark, word in zip(marks, words)]):
            entries = [_entry(mark, word) for mark, word in zip(marks, words) if _is_place(mark)]
            return (form, tuple(entries))
    return None


def _fits(mark, word):
    """Whether the word can stand where the form has the mark."""
    if mark in LABEL_PLACES:
        return is_label(word)
    if mark == NUMBER_PLACE:
        return _is_number(word)
    return word == mark


def _entry(mark, word):
    return int(word) if mark == NUMBER_PLACE else word


def _is_number(word):
    if not 1 <= len(word) <= MOST_DIGITS or not word.isascii() or not word.isdigit():
        return False
    return len(word) == 1 or word[0] != "0"


def _list_items(rows, index):
    """The items of one of the first three rows: the rows of the kinds, the rooms or the seats."""
    head = LIST_HEADS[index]
    if index >= len(rows) or not rows[index].startswith(head):
        raise BadText(index, "row")
    words = rows[index][len(head):].split(BETWEEN_ITEMS)
    items = [kind_row(word) for word in words] if index == 0 else words
    for item in items:
        if item is None or (index > 0 and not is_label(item)):
            raise BadText(index, "row")
    return items


def _read_clause(row):
    """The kind of a clause's row and what its conditions and changes say, or None."""
    head, colon, tail = row.partition(": ")
    kind, word, held = head.partition(" if ")
    if not colon or not is_label(kind):
        return None
    conditions = _read_items(CONDITION_FORMS, held) if word else []
    changes = [] if tail == NO_CHANGES else _read_items(CHANGE_FORMS, tail)
    if None in conditions or None in changes:
        return None
    return (kind, conditions, changes)


def _read_items(forms, text):
    return [_read_form(forms, item) for item in text.split(BETWEEN_ITEMS)]


def _made_custom(lists, clocks, clauses):
    triples = [(entries[0], entries[1], form == CLOCK_FORMS[0]) for form, entries in clocks]
    made = [
        Clause(
            kind,
            [_made_condition(form, entries) for form, entries in conditions],
            [_made_change(form, entries) for form, entries in changes],
        )
        for kind, conditions, changes in clauses
    ]
    return Custom(Kinds(lists[0]), lists[1], lists[2], triples, made)


def _made_condition(form, entries):
    if form == "in R":
        return InRoom(*entries)
    if form == "not in R":
        return NotInRoom(*entries)
    if form == "S is W":
        return Is(*entries)
    if form == "S is not W":
        return IsNot(*entries)
    if form == "C at least N":
        return AtLeast(*entries)
    if form == "C below N":
        return Below(*entries)
    return SamePerson() if form == "same" else Apart()


def _made_change(form, entries):
    if form == "move to R":
        return ToRoom(*entries)
    if form == "S becomes W":
        return Put(*entries)
    if form == "C to 0":
        return Zero(*entries)
    return Run(*entries) if form == "C runs" else Halt(*entries)
