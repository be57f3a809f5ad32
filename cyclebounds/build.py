"""Sums of groups, pullbacks and pushouts (points 4.1 to 4.3)."""

from cyclebounds.errors import Malformed, Refused
from cyclebounds.group import MOST_GENERATORS, Group
from cyclebounds.maps import Map, group_of, quotient_of
from cyclebounds.rows import coordinates, scaled_rows, unit_row
from cyclebounds.subgroup import Subgroup


def check_sum(groups):
    """Refuse groups that have too many generators together."""
    if sum([group.n for group in groups]) > MOST_GENERATORS:
        raise Refused("large")


def starts(groups):
    """Return the numbers of the first generators of the groups in the sum, and behind them that of all."""
    found = [0]
    for group in groups:
        found.append(found[-1] + group.n)
    return found


def sum_of_groups(groups):
    """Return the sum of some groups."""
    check_sum(groups)
    places = starts(groups)
    n = places[-1]
    relations = []
    for group, place in zip(groups, places):
        rows = [(0,) * place + row + (0,) * (n - place - group.n) for row in group.relations]
        relations = relations + rows
    return Group(n, relations)


def into_sum(groups, k):
    """Return the map of the group with the index k into the sum."""
    total = sum_of_groups(groups)
    place = starts(groups)[k]
    return Map(groups[k], total, [unit_row(total.n, place + i) for i in range(groups[k].n)])


def out_of_sum(groups, k):
    """Return the map of the sum onto the group with the index k."""
    total = sum_of_groups(groups)
    place = starts(groups)[k]
    # A unit row whose index is not one of the group is a row of zeros.
    return Map(total, groups[k], [unit_row(groups[k].n, i - place) for i in range(total.n)])


def agreeing(f, g):
    """Return the subgroup of the sum of the sources of all pairs (a, b) with f(a) = g(b)."""
    if f.target != g.target:
        raise Malformed("the maps have unlike targets")
    total = sum_of_groups((f.source, g.source))
    return Map(total, f.target, f.matrix + scaled_rows(g.matrix, -1)).kernel()


def pullback(f, g):
    """Return the pullback of two maps and the maps from it to their sources."""
    group, into = group_of(agreeing(f, g))
    pair = (f.source, g.source)
    return group, into.then(out_of_sum(pair, 0)), into.then(out_of_sum(pair, 1))


def into_pullback(f, g, u, v):
    """Return the map to the pullback of f and g that leads on to u and v."""
    if f.target != g.target or u.target != f.source or v.target != g.source or u.source != v.source:
        raise Malformed("the four maps do not fit")
    part = agreeing(f, g)
    if u.then(f) != v.then(g):
        raise Refused("commute")
    images = [coordinates(part.rows, a + b) for a, b in zip(u.matrix, v.matrix)]
    return Map(u.source, group_of(part)[0], images)


def differences(f, g):
    """Return the subgroup of the sum of the targets of all pairs (f(c), -g(c))."""
    if f.source != g.source:
        raise Malformed("the maps have unlike sources")
    total = sum_of_groups((f.target, g.target))
    return Subgroup(total, [a + b for a, b in zip(f.matrix, scaled_rows(g.matrix, -1))])


def pushout(f, g):
    """Return the pushout of two maps and the maps from their targets to it."""
    group, onto = quotient_of(differences(f, g))
    pair = (f.target, g.target)
    return group, into_sum(pair, 0).then(onto), into_sum(pair, 1).then(onto)


def out_of_pushout(f, g, u, v):
    """Return the map from the pushout of f and g that is u and v on their targets."""
    if f.source != g.source or u.source != f.target or v.source != g.target or u.target != v.target:
        raise Malformed("the four maps do not fit")
    part = differences(f, g)
    if f.then(u) != g.then(v):
        raise Refused("commute")
    return Map(quotient_of(part)[0], u.target, u.matrix + v.matrix)
