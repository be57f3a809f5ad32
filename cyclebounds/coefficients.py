"""Homology modulo m, reduction, Bockstein maps and the row of universal coefficients (points 9.5 and 9.6)."""

from cyclebounds.errors import Malformed
from cyclebounds.extension import Extension
from cyclebounds.group import Group
from cyclebounds.homology import boundaries, cycles, homology
from cyclebounds.maps import Map, group_of, quotient_of
from cyclebounds.rows import coordinates, holds, preimage, scaled_rows, span, unit_matrix
from cyclebounds.subgroup import annulled, multiples
from cyclebounds.whole import is_integer


def check_modulus(m):
    """Raise Malformed if a value is no integer from 2 on."""
    if not is_integer(m) or m < 2:
        raise Malformed("no integer from 2 on")


def cycles_modulo(c, m, n):
    """Return the reduced table of the rows of a degree whose boundaries have multiples of m alone."""
    check_modulus(m)
    width = c.rank(n - 1)
    return preimage(c.boundary(n), width, scaled_rows(unit_matrix(width), m))


def homology_modulo(c, m, n):
    """Return the homology of a degree modulo m."""
    table, rank = cycles_modulo(c, m, n), c.rank(n)
    bounding = span(scaled_rows(unit_matrix(rank), m) + boundaries(c, n), rank)
    return Group(len(table), [coordinates(table, row) for row in bounding])


def class_modulo(c, m, n, z):
    """Return the class of a cycle modulo m."""
    table = cycles_modulo(c, m, n)
    if not c.is_row(n, z) or not holds(table, z):
        raise Malformed("no cycle modulo m of this degree")
    return homology_modulo(c, m, n).normal(coordinates(table, z))


def reduction(c, m, n):
    """Return the map that takes the class of a cycle to its class modulo m."""
    table = cycles_modulo(c, m, n)
    rows = [coordinates(table, z) for z in cycles(c, n)]
    return Map(homology(c, n), homology_modulo(c, m, n), rows)


def bockstein(c, m, n):
    """Return the map that takes the class of a cycle z modulo m to that of d z divided by m."""
    table = cycles(c, n - 1)
    turned = [c.turned(n, z) for z in cycles_modulo(c, m, n)]
    rows = [coordinates(table, tuple([item // m for item in row])) for row in turned]
    return Map(homology_modulo(c, m, n), homology(c, n - 1), rows)


def universal_row(c, m, n):
    """Return the extension of the elements annulled by m, a degree below, by the homology modulo its multiples."""
    ahead, behind = reduction(c, m, n), bockstein(c, m, n)
    first, _ = quotient_of(multiples(ahead.source, m))
    part = annulled(behind.target, m)
    last, _ = group_of(part)
    rows = [coordinates(part.rows, row) for row in behind.matrix]
    return Extension(Map(first, ahead.target, ahead.matrix), Map(behind.source, last, rows))
