"""A judge of verdicts, and the numbers of one condition's limits."""

from searchback.alikefault import alike_fault
from searchback.amendments import Limit
from searchback.checks import check_questions
from searchback.closed import Alike, Parting
from searchback.errors import BadAmendment
from searchback.pairs import check_pairs
from searchback.pools import Pool
from searchback.searching import Endless, found_fault, search_years

WORDS = ("clash", "many", "endless", "far", "unlike", "good")


def lots_fault(found):
    """None if every verdict is right, else the index of the first wrong one and the word for why."""
    if [verdict.lot for verdict in found.verdicts] != [lot for lot in found.pool.lots()]:
        return (0, "lots")
    for index, verdict in enumerate(found.verdicts):
        word = _verdict_fault(found, verdict)
        if word is not None:
            return (index, word)
    return None


def limit_numbers(custom, clause, condition, question):
    """The number of the question for each limit of the condition, from 1 to the cap of its clock."""
    check_questions(custom, (question,))
    word = Limit(clause, condition, 1).fault(custom)
    if word is not None:
        raise BadAmendment(word)
    check_pairs(custom)
    name = custom.clauses[clause].conditions[condition].clock
    cap = [clock[1] for clock in custom.clocks if clock[0] == name][0]
    pools = [Pool(custom, [Limit(clause, condition, limit)]) for limit in range(1, cap + 1)]
    return tuple([search_years(pool.amended((0,)), question) for pool in pools])


def _verdict_fault(found, verdict):
    due = _due_word(found.pool, verdict.lot)
    if _is_wrong_word(found, verdict, due):
        return "word"
    if due is None and found_fault(found.pool.amended(verdict.lot), verdict.found, found.question) is not None:
        return "found"
    if _are_wrong_years(found, verdict, due):
        return "years"
    return "table" if _is_wrong_table(found, verdict) else None


def _due_word(pool, lot):
    """The word that the lot is due for its amendments alone, or None."""
    if pool.clash(lot) is not None:
        return "clash"
    return "many" if pool.is_crowded(lot) else None


def _is_wrong_word(found, verdict, due):
    if verdict.word not in WORDS or (verdict.word == "unlike" and found.same is None):
        return True
    return verdict.word != due and (due is not None or verdict.word in ("clash", "many"))


def _are_wrong_years(found, verdict, due):
    if due is not None:
        return verdict.years is not None
    if isinstance(verdict.found, Endless):
        return verdict.years is not None or verdict.word != "endless"
    if verdict.years != verdict.found.years or verdict.word == "endless":
        return True
    return (verdict.word == "far") != (verdict.years > found.years)


def _is_wrong_table(found, verdict):
    if found.same is None or verdict.word not in ("unlike", "good"):
        return verdict.table is not None
    if verdict.word == "unlike" and not isinstance(verdict.table, Parting):
        return True
    if verdict.word == "good" and not isinstance(verdict.table, Alike):
        return True
    amended = found.pool.amended(verdict.lot)
    return alike_fault(found.pool.custom, amended, (found.same,), verdict.table) is not None
