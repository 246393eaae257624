"""Pasts and rings, made along ways through the pairs.

Persons who sit in neither stand are as good as strangers. So a way by nodes can be gone with the
first labels that are free at each step: no more than those of six persons and two strangers.
The rows of a way are its years, each with the nodes to which its deeds lead.
"""

from searchback.joint import played, rows_back
from searchback.pasts import Pasts, Rings
from searchback.stand import Stand
from searchback.stands import coming_stands
from searchback.walks import code_behind


def parting_pasts(climb, years):
    """Pasts with just so many common years, which are fewer than the years of some root."""
    if climb.turn is not None:
        return _turning_pasts(climb, years)
    graph = climb.graph
    if years == 0:
        start = [node for node in climb.roots if graph.is_unlike(node)][0]
    else:
        start = [node for node in climb.roots if climb.heights[node] == years][0]
    one, other = graph.codes_of(start)
    common = played(graph, one, other, _falling_rows(climb, start, years))[0]
    return Pasts(_past_to(graph, one), _past_to(graph, other), common)


def parting_rings(climb):
    """Rings that go round through the node of the climb's turn."""
    one, other, ring, tail = _turning_years(climb)
    return Rings(_past_to(climb.graph, one), _past_to(climb.graph, other), ring, tail)


def _turning_pasts(climb, years):
    """Pasts whose common years are the last ones of a ring, gone round often enough, and its tail."""
    graph = climb.graph
    one, other, ring, tail = _turning_years(climb)
    turns = years // len(ring) + 1
    common = (*(ring * turns), *tail)
    skipped = len(common) - years
    one, other = _led_both(graph, one, other, common[:skipped])
    return Pasts(_past_to(graph, one), _past_to(graph, other), common[skipped:])


def _turning_years(climb):
    """Two codes, years that lead both back to themselves, and years that lead both to unlike ones.

    Behind one way round, others may sit where the persons sat, or the stands be exchanged. With
    the first free labels there are few ways to be called, so sooner or later one comes again.
    """
    graph = climb.graph
    rows = _rows_to(climb, climb.turn, climb.turn)
    one, other = graph.codes_of(climb.turn)
    met = {}
    years = []
    while (one, other) not in met:
        met[(one, other)] = len(years)
        turn, one, other = played(graph, one, other, rows)
        years.extend(turn)
    tail = ()
    if not graph.is_unlike(climb.turn):
        tail = played(graph, one, other, _rows_to(climb, climb.turn, None))[0]
    return (one, other, tuple(years[met[(one, other)]:]), tail)


def _rows_to(climb, start, goal):
    """The rows of a way from the start to the goal, or to any unlike pair if there is no goal.

    The way ends with a year's end.
    """
    before = {start: None}
    waiting = [start]
    at = 0
    while not _is_goal(climb, climb.end_ways[waiting[at]], goal):
        node = waiting[at]
        at += 1
        for to in climb.deed_ways[node]:
            if to not in before:
                before[to] = (node, False)
                waiting.append(to)
        to = climb.end_ways[node]
        if to is not None and to not in before:
            before[to] = (node, True)
            waiting.append(to)
    return rows_back(before, waiting[at])


def _is_goal(climb, node, goal):
    if node is None:
        return False
    return climb.graph.is_unlike(node) if goal is None else node == goal


def _falling_rows(climb, node, years):
    """The rows of a way on which the height falls by just one with each of so many years."""
    rows = []
    for height in range(years, 0, -1):
        before = {node: None}
        waiting = [node]
        at = 0
        while not _falls_by_one(climb, climb.end_ways[waiting[at]], height):
            ahead = waiting[at]
            at += 1
            for to in climb.deed_ways[ahead]:
                if to not in before:
                    before[to] = (ahead, False)
                    waiting.append(to)
        rows.extend(rows_back(before, waiting[at]))
        node = climb.end_ways[waiting[at]]
    return rows


def _falls_by_one(climb, to, height):
    """Whether this node, behind the year's end, is the next one on a way of this height."""
    if to is None:
        return False
    return climb.graph.is_unlike(to) if height == 1 else climb.heights[to] == height - 1


def _led_both(graph, one, other, years):
    for year in years:
        one = code_behind(graph.custom, one, year)
        other = code_behind(graph.custom, other, year)
    return (one, other)


def _past_to(graph, code):
    """A history that ends in the stand with this code."""
    return coming_stands(graph.custom).history_to(Stand(*code))
