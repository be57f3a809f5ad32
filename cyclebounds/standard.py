"""Pieces, standard complexes, and the bases that show them (points 6.5 to 6.8)."""

from cyclebounds.complexes import Complex
from cyclebounds.homology import cycles
from cyclebounds.rows import coordinates, rest, scaled, times, unit_row, zero_matrix
from cyclebounds.smith import divisors, inverse, smith


def sizes_below(c, n):
    """Return the divisors of the boundary of a degree."""
    return divisors(c.boundary(n), c.rank(n - 1))


def pieces(c):
    """Return the tuple of the pieces of a complex, pairs of a degree and a number."""
    found = []
    for n in c.degrees():
        sizes = sizes_below(c, n + 1)
        free = c.rank(n) - len(sizes) - len(sizes_below(c, n))
        found = found + [(n, s) for s in sizes] + [(n, 0)] * free
    return tuple(found)


def lasting(found):
    """Return the pieces other than those (n, 1), which have no homology."""
    return tuple([(n, s) for n, s in found if s != 1])


def same_homology(a, b):
    """Tell whether the homology groups of two complexes are isomorphic in each degree."""
    return lasting(pieces(a)) == lasting(pieces(b))


def standard_complex(c):
    """Return the standard complex with the pieces of a complex."""
    boundaries = [standard_boundary(c, n) for n in c.degrees()[1:]]
    return Complex(c.low, c.ranks, boundaries)


def standard_boundary(c, n):
    """Return the boundary of a degree of the standard complex."""
    sizes, width = sizes_below(c, n), c.rank(n - 1)
    # In the degree below the upper ends stand before the lower ones.
    first = len(sizes_below(c, n - 1))
    rows = tuple([scaled(unit_row(width, first + i), s) for i, s in enumerate(sizes)])
    return rows + zero_matrix(c.rank(n) - len(sizes), width)


def standard(c):
    """Return the tuple of the changes P_n, in the order of the degrees, and that of their inverses."""
    changes = []
    upper = ()
    for n in c.degrees():
        table, above = cycles(c, n), cycles(c, n + 1)
        u, v, sizes = smith([coordinates(table, row) for row in c.boundary(n + 1)], len(table))
        changes.append(upper + times(inverse(v), table, c.rank(n)))
        # The boundaries of the first rows of u are the divisors times the first new cycles;
        # the rest by the cycles has the same boundary and smaller items.
        upper = tuple([rest(above, row) for row in u[:len(sizes)]])
    return tuple(changes), tuple([inverse(rows) for rows in changes])
