"""The pages of filtered complexes, their maps, and what they leave (points 10.2 to 10.6)."""

from cyclebounds.errors import Malformed
from cyclebounds.filtered import MOST_LEVEL, bounding_lattice, near_lattice
from cyclebounds.group import Group
from cyclebounds.homology import cycles, homology
from cyclebounds.maps import Map, group_of, quotient_of, zero_map
from cyclebounds.rows import coordinates, holds, preimage, times
from cyclebounds.subgroup import Subgroup
from cyclebounds.whole import is_integer, is_natural

LAST_PAGE = 10


def check_place(r, p, n):
    """Raise Malformed if r is no integer from 0 on, or p or n is no integer."""
    if not is_natural(r) or not is_integer(p) or not is_integer(n):
        raise Malformed("no page, level and degree")


def near_cycles(f, r, p, n):
    """Return the reduced table of Z(r, p, n)."""
    check_place(r, p, n)
    return near_lattice(f, r, p, n)


def near_boundaries(f, r, p, n):
    """Return the reduced table of B(r, p, n)."""
    check_place(r, p, n)
    return bounding_lattice(f, r, p, n)


def page(f, r, p, n):
    """Return the group of the page r at p and n."""
    table = near_cycles(f, r, p, n)
    return Group(len(table), [coordinates(table, row) for row in near_boundaries(f, r, p, n)])


def page_class(f, r, p, n, x):
    """Return the class of a row of Z(r, p, n)."""
    table = near_cycles(f, r, p, n)
    if not f.complex.is_row(n, x) or not holds(table, x):
        raise Malformed("no row of the near cycles")
    return page(f, r, p, n).normal(coordinates(table, x))


def page_map(f, r, p, n):
    """Return the map of the page r from p and n."""
    source, target = page(f, r, p, n), page(f, r, p - r, n - 1)
    turned = times(near_cycles(f, r, p, n), f.complex.boundary(n), f.complex.rank(n - 1))
    table = near_cycles(f, r, p - r, n - 1)
    return Map(source, target, [coordinates(table, row) for row in turned])


def next_page(f, r, p, n):
    """Return the homology of the page r at p and n, and the map of the next page to it."""
    part = page_map(f, r, p, n).kernel()
    coming = page_map(f, r, p + r, n + 1).image()
    group = quotient_of(inside_of(part, coming))[0]
    table = near_cycles(f, r, p, n)
    rows = [coordinates(table, x) for x in near_cycles(f, r + 1, p, n)]
    return group, Map(page(f, r + 1, p, n), group, [coordinates(part.rows, row) for row in rows])


def inside_of(part, other):
    """Return the subgroup of a subgroup, as a group of its own, of the elements that are in another one."""
    own, into = group_of(part)
    return Subgroup(own, preimage(into.matrix, into.target.n, other.rows))


def level_part(f, p, n):
    """Return the subgroup of the homology of a degree of the classes of the cycles of F_p."""
    check_place(0, p, n)
    c = f.complex
    table = cycles(c, n)
    return Subgroup(homology(c, n), [coordinates(table, z) for z in cycles_up_to(f, p, n)])


def cycles_up_to(f, p, n):
    """Return the reduced table of the cycles of F_p of a degree."""
    # Below the level 0 there is nothing: so the boundary of such a row is 0.
    return near_lattice(f, max(p, 0) + 1, p, n)


def last_page(f, p, n):
    """Return what the filtration leaves at p and n, and the map of the page 10 to it."""
    part, below = level_part(f, p, n), level_part(f, p - 1, n)
    group = quotient_of(inside_of(part, below))[0]
    source = page(f, LAST_PAGE, p, n)
    if p > MOST_LEVEL:
        # Both groups have one element, but not all rows that stand for it are cycles.
        return group, zero_map(source, group)
    table = cycles(f.complex, n)
    rows = [coordinates(table, z) for z in near_cycles(f, LAST_PAGE, p, n)]
    return group, Map(source, group, [coordinates(part.rows, row) for row in rows])
