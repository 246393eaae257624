"""Ways back through lots of stands, and the deeds that lead along them.

What a year may be is told by a pair (told deeds, free kinds): the told deeds are done in their
order, with any deeds of the free kinds ahead of, between and behind them. The steps of a year
are pairs (deed, number): the told deed, or None for any deed of a free kind, and the number of
the stand behind it.
"""

from searchback.customs import deed_step, end_step
from searchback.frame import lot_of, numbers_in


def year_stages(frame, lot, told, kinds):
    """The lots that can stand, from this lot on, behind the first 0, 1, 2, .. told deeds of a year."""
    stages = [frame.reached(lot, kinds)]
    for deed in told:
        behind = lot_of([frame.done(number, deed) for number in numbers_in(stages[-1])])
        stages.append(frame.reached(behind, kinds))
    return stages


def year_behind(frame, lot, told, kinds):
    """The lot that can stand behind a year."""
    key = (lot, told, kinds)
    if key not in frame.known_years:
        frame.known_years[key] = frame.ended(year_stages(frame, lot, told, kinds)[-1])
    return frame.known_years[key]


def year_back(frame, lot, told, kinds, goal):
    """The number of a stand of the lot, and steps of a year that lead from it to the goal."""
    stages = year_stages(frame, lot, told, kinds)
    number = [one for one in numbers_in(stages[-1]) if frame.end_of(one) == goal][0]
    rows = []
    for place in range(len(told), 0, -1):
        ahead = numbers_in(stages[place - 1])
        behind = lot_of([frame.done(one, told[place - 1]) for one in ahead])
        path = frame.path(behind, kinds, number)
        rows.append([(told[place - 1], path[0]), *[(None, to) for to in path[1:]]])
        number = [one for one in ahead if frame.done(one, told[place - 1]) == path[0]][0]
    path = frame.path(lot, kinds, number)
    rows.append([(None, to) for to in path[1:]])
    return (path[0], [step for row in rows[::-1] for step in row])


def years_back(frame, lots, years, goal):
    """The number of a stand of the first lot, and the steps of years that lead from it to the goal.

    Each year has its told deeds and free kinds, and its lot stands ahead of it.
    """
    rows = []
    for lot, (told, kinds) in zip(lots[::-1], years[::-1]):
        goal, steps = year_back(frame, lot, told, kinds, goal)
        rows.append(steps)
    return (goal, rows[::-1])


def played_deeds(frame, code, steps, kinds):
    """The deeds of these steps from this code on, and the code behind them."""
    deeds = []
    for told, number in steps:
        deed = frame.deed_to(code, kinds, number) if told is None else told
        deeds.append(deed)
        code = deed_step(frame.custom, code, deed)[1]
    return (tuple(deeds), code)


def played_years(frame, code, rows, years):
    """The years of these steps from this code on, and the code behind them."""
    played = []
    for steps, (_, kinds) in zip(rows, years):
        deeds, code = played_deeds(frame, code, steps, kinds)
        played.append(deeds)
        code = end_step(frame.custom, code)[1]
    return (tuple(played), code)
