"""Papers that show results, for the checker to read (chapter 11)."""

from cyclebounds.cone import equivalence
from cyclebounds.errors import Malformed
from cyclebounds.extension import alike, alike_bar, section, split_bar
from cyclebounds.homology import filling, filling_bar
from cyclebounds.homotopy import homotopy_or_bar
from cyclebounds.rows import holds, is_zero_row, origin_in, solutions, times, unit_matrix, unit_row
from cyclebounds.smith import bar, inverse, reduced_beside
from cyclebounds.standard import pieces, standard


def filling_paper(c, n, z):
    """Return a paper that shows a cycle to be a boundary, or to be none."""
    found = filling(c, n, z)
    if found is not None:
        return "filling", found
    t, m = filling_bar(c, n, z)
    return "bar", t, m


def homotopy_paper(f, g):
    """Return a paper that shows two chain maps to be homotopic, or not to be."""
    matrices, found = homotopy_or_bar(f, g)
    if found is None:
        return "homotopy", matrices
    n, m, z, t = found
    return "bar", n, m, z, t


def equivalence_paper(a, b):
    """Return a paper that shows two complexes to be equivalent, or not to be."""
    found = equivalence(a, b)
    if found is None:
        return "apart", standard_triple(a), standard_triple(b)
    f, g, s, t = found
    return "equivalence", f.matrices, g.matrices, s, t


def standard_triple(c):
    """Return the triple of the pieces, the changes and their inverses that shows the standard form of a complex."""
    changes, backs = standard(c)
    return pieces(c), changes, backs


def exact_paper(f, g):
    """Return a paper that shows two maps to be exact, or not to be."""
    if f.target != g.source:
        raise Malformed("the second map does not begin where the first one ends")
    n, width, relations = g.source.n, g.target.n, g.target.relations
    for i, row in enumerate(times(f.matrix, g.matrix, width)):
        if not holds(relations, row):
            return "beside", unit_row(f.source.n, i)
    rows = g.matrix + relations
    product, u = reduced_beside(rows, unit_matrix(len(rows)), width)
    spanning = f.matrix + g.source.relations
    table = solutions(spanning, n, ())
    lifts = []
    # The rows of u that give zeros begin with all that goes to 0.
    for y in [start[:n] for start, end in zip(u, product) if is_zero_row(end)]:
        found = origin_in(table, n, y)
        if found is None:
            t, m = bar(spanning, n, y)
            return "left", y, t, m
        lifts.append((found[:f.source.n], found[f.source.n:]))
    return "exact", u, inverse(u), tuple(lifts)


def split_paper(extension):
    """Return a paper that shows an extension to have a section, or to have none."""
    found = section(extension)
    if found is not None:
        return "section", found.matrix
    k, e, t, m = split_bar(extension)
    return "bar", k, e, t, m


def alike_paper(one, two):
    """Return a paper that shows two extensions to be alike, or not to be."""
    found = alike(one, two)
    if found is not None:
        return "alike", found.matrix
    k, e, e2, b, b2, t, m = alike_bar(one, two)
    return "apart", k, e, e2, b, b2, t, m
