"""How many of the last years must be known, and what shows it."""

from searchback.checks import check_asking, check_stand
from searchback.climb import ENDLESS, Climb
from searchback.errors import BadYears
from searchback.heights import Heights, beginning_nodes, table_fault
from searchback.labels import is_count, is_whole
from searchback.pairgraph import PairGraph
from searchback.pairs import check_pairs
from searchback.partings import parting_pasts, parting_rings
from searchback.pasts import pasts_fault, rings_fault

MOST_COMMON = 200


class Found:
    """The number, heights that show that it is enough, and pasts that show that less is not."""

    def __init__(self, years, heights, pasts):
        self.years = years
        self.heights = heights
        self.pasts = pasts


class Endless:
    """Rings that show that no number is enough."""

    def __init__(self, rings):
        self.rings = rings


def search_years(custom, question, *more, without=()):
    """The number of the questions, or None if they are endless."""
    climb = _climb_of(custom, (question, *more), without)
    return _number_or_none(_greatest_years(climb))


def years_left(custom, one, other, question, *more, without=()):
    """The years of two stands at a year's end, or None if there is no bound."""
    questions = (question, *more)
    check_asking(custom, questions, without)
    check_stand(custom, one)
    check_stand(custom, other)
    check_pairs(custom)
    graph = PairGraph(custom, without, questions)
    node = graph.node_of(one.code, other.code)
    if node is None:
        return 0
    return _number_or_none(Climb(graph, [node]).years_of(node))


def falling_counts(custom, question, *more, without=()):
    """For 0, 1, 2, .. years how many beginning pairs have more years, up to where it falls no more."""
    climb = _climb_of(custom, (question, *more), without)
    many = {}
    for node, count in beginning_nodes(climb.graph).items():
        years = climb.years_of(node)
        many[years] = many.get(years, 0) + count
    left = sum(list(many.values())) - many.get(0, 0)
    counts = [left]
    while left > 0 and (len(counts) == 1 or counts[-1] < counts[-2]):
        left -= many.get(len(counts), 0)
        counts.append(left)
    return tuple(counts)


def searching(custom, question, *more, without=()):
    """The number with all that shows it, or rings if the questions are endless."""
    climb = _climb_of(custom, (question, *more), without)
    if climb.turn is not None:
        return Endless(parting_rings(climb))
    heights = Heights([(climb.graph.pair_of(node), height) for node, height in climb.heights.items()])
    years = _greatest_years(climb)
    return Found(years, heights, parting_pasts(climb, years - 1) if years > 0 else None)


def pasts_for(custom, years, question, *more, without=()):
    """Pasts with just so many common years behind which the answers are unlike, or None."""
    questions = (question, *more)
    check_asking(custom, questions, without)
    if not is_whole(years, 0, MOST_COMMON):
        raise BadYears(years)
    climb = _climb_of(custom, questions, without)
    return parting_pasts(climb, years) if _greatest_years(climb) > years else None


def found_fault(custom, found, question, *more, without=()):
    """None if what was found shows the number, else the word for why not."""
    questions = (question, *more)
    check_asking(custom, questions, without)
    check_pairs(custom)
    if isinstance(found, Endless):
        word = rings_fault(custom, found.rings, *questions, without=without)
        return None if word is None else "rings"
    if not isinstance(found, Found):
        return "found"
    if not is_count(found.years):
        return "years"
    graph = PairGraph(custom, without, questions)
    if table_fault(graph, found.heights) is not None:
        return "heights"
    if _bound_of(graph, found.heights) != found.years:
        return "bound"
    return None if _pasts_fit(custom, found, questions, without) else "pasts"


def _climb_of(custom, questions, without):
    """The heights of all pairs that come."""
    check_asking(custom, questions, without)
    check_pairs(custom)
    graph = PairGraph(custom, without, questions)
    return Climb(graph, beginning_nodes(graph))


def _greatest_years(climb):
    return max([climb.years_of(node) for node in climb.roots], default=0)


def _number_or_none(years):
    return None if years == ENDLESS else years


def _bound_of(graph, heights):
    """The number of years that a table without fault shows to be enough."""
    if heights.most > 0:
        return heights.most + 1
    return 1 if any([graph.is_unlike(node) for node in beginning_nodes(graph)]) else 0


def _pasts_fit(custom, found, questions, without):
    """Whether the pasts show that fewer years are not enough."""
    if found.years == 0:
        return found.pasts is None
    if pasts_fault(custom, found.pasts, *questions, without=without) is not None:
        return False
    return len(found.pasts) == found.years - 1
