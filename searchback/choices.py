"""Lots that are chosen out of a few things."""


def lots_of(things):
    """All lots of some ascending things: fewer things first, then as tuples are ordered."""
    lots = [()]
    for thing in things:
        lots = [*lots, *[(*lot, thing) for lot in lots]]
    return [lot for size in range(len(things) + 1) for lot in sorted([one for one in lots if len(one) == size])]


def is_part(one, other):
    """Whether all things of one lot are in the other one."""
    return all([thing in other for thing in one])
