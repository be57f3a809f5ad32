"""Homotopies of chain maps, bars for them, and contractions (points 7.2 to 7.4)."""

from cyclebounds.chain import check_parallel, identity_chain, sum_of_matrices, zero_chain
from cyclebounds.maps import difference
from cyclebounds.rows import is_matrix, origin_in, scaled_rows, solutions, times, unit_matrix
from cyclebounds.smith import bar
from cyclebounds.standard import sizes_below, standard


def is_homotopy(f, g, value):
    """Tell whether a value is the tuple of the matrices of a homotopy from f to g."""
    check_parallel(f, g)
    c, d = f.source, f.target
    if not isinstance(value, tuple) or len(value) != len(c.ranks):
        return False
    below = ()
    for n, rows in zip(c.degrees(), value):
        if not is_matrix(rows, c.rank(n), d.rank(n + 1)):
            return False
        width = d.rank(n)
        around = sum_of_matrices(times(rows, d.boundary(n + 1), width), times(c.boundary(n), below, width))
        if difference(f.matrix(n), g.matrix(n)) != around:
            return False
        below = rows
    return True


def homotopy(f, g):
    """Return the tuple of the matrices of a homotopy from f to g, or None if there is none."""
    return homotopy_or_bar(f, g)[0]


def homotopy_bar(f, g):
    """Return None if there is a homotopy from f to g, otherwise a bar (n, m, z, t)."""
    return homotopy_or_bar(f, g)[1]


def contraction(c):
    """Return the tuple of the matrices of a homotopy from the identity of a complex to 0, or None."""
    return homotopy(identity_chain(c), zero_chain(c, c))


def homotopy_or_bar(f, g):
    """Return a pair of a homotopy from f to g and a bar, one of which is None."""
    k = f - g
    c, d = k.source, k.target
    changes, backs = standard(c)
    parts = []
    for n, change in zip(c.degrees(), changes):
        tables = {}
        for row, s in tops(c, n, change):
            asked, image = asked_rows(d, n, s), k.value(n, row)
            if s not in tables:
                tables[s] = solutions(asked, d.rank(n), ())
            found = origin_in(tables[s], d.rank(n), image)
            if found is None:
                t, m = bar(asked, d.rank(n), image)
                return None, (n, m, row, t)
            parts.append((n, s, found[:d.rank(n)], found[d.rank(n):]))
    return tuple([times(back, images(parts, n), d.rank(n + 1)) for n, back in zip(c.degrees(), backs)]), None


def tops(c, n, change):
    """Return the rows of a basis that are no lower ends of pieces, each with the number of its piece."""
    sizes = sizes_below(c, n)
    ends = len(sizes) + len(sizes_below(c, n + 1))
    return list(zip(change, sizes)) + [(row, 0) for row in change[ends:]]


def asked_rows(d, n, s):
    """Return rows that span all s y + d w, y of the degree n: first those for y, then those for w."""
    return scaled_rows(unit_matrix(d.rank(n)), s) + d.boundary(n + 1)


def images(parts, n):
    """Return the rows of a homotopy at the basis of a degree, for parts (n, s, y, w) of the tops.

    A top goes to its w, the lower end below it, which has the degree less 1, to its y.
    """
    upper = [w for m, s, _, w in parts if m == n and s > 0]
    lower = [y for m, s, y, _ in parts if m == n + 1 and s > 0]
    return upper + lower + [w for m, s, _, w in parts if m == n and s == 0]
