"""Drawn dockets, and what they make sure by the second way to walk."""

import random

from searchback.abstracts import Abstract
from searchback.docket import Docket
from searchback.entries import Holding, Known
from searchback.questions import Who
from searchback.stand import Stand
from tests.helpers import (
    drawn_questions, fading_custom, guarded_custom, lively_custom, told_answer, told_layers,
)


def drawn_docket(seed, custom, years=3, deeds=4, names=("ann", "a", "bob")):
    """A docket with some deeds and some shut years."""
    rnd = random.Random(seed)
    docket = Docket(custom, rnd.randint(1, years), ahead=rnd.random() < 0.4)
    for _ in range(rnd.randint(0, deeds)):
        year = rnd.randrange(len(docket))
        name, arity = rnd.choice(custom.kinds.rows)
        docket.tell(year, rnd.randint(0, len(docket.rows[year])), (name, *[rnd.choice(names) for _ in range(arity)]))
    for year in range(len(docket)):
        if rnd.random() < 0.5:
            docket.shut(year)
    return docket


def drawn_dockets(many, first=0, **more):
    """Dockets, each with a number for more choices, a year and a question."""
    for seed in range(first, first + many):
        custom = (lively_custom, fading_custom, guarded_custom)[seed % 3](seed)
        docket = drawn_docket(seed, custom, **more)
        yield seed, docket, random.Random(seed).randrange(len(docket)), drawn_questions(seed, custom)[0]


def told_abstract(docket, year, shut):
    entries = [(Known if at in shut else Holding)(docket.rows[at]) for at in range(year + 1)]
    return Abstract(docket.custom.kinds, entries, whole=not docket.ahead)


def told_sure(docket, year, question, shut):
    """The answer, in a tuple, if all histories that fill the docket with these shut years answer alike, else None."""
    abstract = told_abstract(docket, year, shut)
    codes = told_layers(docket.custom, abstract)[-1]
    answers = {told_answer(docket.custom, Stand(*code), question) for code in codes}
    if len(answers) > 1 or isinstance(question, Who) and not answers <= {None, *abstract.persons}:
        return None
    return tuple(answers)
