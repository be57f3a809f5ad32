"""Cycles, boundaries, homology, fillings and bars of complexes (point 6.3)."""

from cyclebounds.errors import Malformed
from cyclebounds.group import Group
from cyclebounds.rows import coordinates, is_row, is_zero_row, kernel, moved, solve, span
from cyclebounds.smith import bar


def cycles(c, n):
    """Return the reduced table of the cycles of a degree."""
    return kernel(c.boundary(n), c.rank(n - 1))


def boundaries(c, n):
    """Return the reduced table of the boundaries of a degree."""
    return span(c.boundary(n + 1), c.rank(n))


def homology(c, n):
    """Return the homology of a degree."""
    table = cycles(c, n)
    return Group(len(table), [coordinates(table, row) for row in boundaries(c, n)])


def is_cycle(c, n, value):
    """Tell whether a value is a row of a degree and a cycle."""
    return c.is_row(n, value) and is_zero_row(c.turned(n, value))


def check_cycle(c, n, value):
    """Raise Malformed for every value that is no cycle."""
    if not is_cycle(c, n, value):
        raise Malformed("no cycle of this degree")


def class_of(c, n, z):
    """Return the class of a cycle."""
    check_cycle(c, n, z)
    return homology(c, n).normal(coordinates(cycles(c, n), z))


def cycle_of(c, n, x):
    """Return the cycle with some coordinates."""
    table = cycles(c, n)
    if not is_row(x, len(table)):
        raise Malformed("no row of the homology")
    return moved(x, table, c.rank(n))


def filling(c, n, z):
    """Return a row whose boundary is a cycle, or None if there is none."""
    check_cycle(c, n, z)
    return solve(c.boundary(n + 1), c.rank(n), z)


def filling_bar(c, n, z):
    """Return None if a cycle has a filling, otherwise a pair (t, m) of point 6.3."""
    check_cycle(c, n, z)
    return bar(c.boundary(n + 1), c.rank(n), z)
