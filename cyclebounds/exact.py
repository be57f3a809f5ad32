"""Exact pairs of maps, origins, lifts and extended maps (points 3.5 and 3.6)."""

from cyclebounds.errors import Malformed
from cyclebounds.maps import Map, standard_group
from cyclebounds.rows import is_row, moved, origin_in, scaled_rows, solutions, times, transposed
from cyclebounds.rows import unit_matrix
from cyclebounds.subgroup import annulled


def is_exact(f, g):
    """Tell whether the image of f is the kernel of g."""
    if f.target != g.source:
        raise Malformed("the second map does not begin where the first one ends")
    return f.image() == g.kernel()


def origin(f, y):
    """Return a row whose image is the element of the row y, or None if there is none."""
    if not is_row(y, f.target.n):
        raise Malformed("no row of the target")
    return origins(f, (y,))[0]


def origins(f, rows):
    """Return, for each row of the target, a row whose image is its element, or None."""
    n = f.target.n
    table = solutions(f.matrix, n, f.target.relations)
    return tuple([origin_in(table, n, row) for row in rows])


def generator_orders(group):
    """Return the orders of the generators, 0 for endless ones."""
    return [group.order_of(row) for row in unit_matrix(group.n)]


def lifted(f, g):
    """Return a map h such that first h and then g is f, or None if there is none."""
    if f.target != g.target:
        raise Malformed("the maps have unlike targets")
    standard, ahead, back = standard_group(f.source)
    n, relations = g.target.n, g.target.relations
    tables = {}
    images = []
    for k, row in zip(generator_orders(standard), back.then(f).matrix):
        if k not in tables:
            # Only elements whose multiple by k is 0 can be images of one of the order k.
            chosen = annulled(g.source, k).rows
            tables[k] = (chosen, solutions(times(chosen, g.matrix, n), n, relations))
        chosen, table = tables[k]
        found = origin_in(table, n, row)
        if found is None:
            return None
        images.append(moved(found, chosen, g.source.n))
    return ahead.then(Map(standard, g.source, images))


def extended(f, i):
    """Return a map h such that first i and then h is f, or None if there is none."""
    if f.source != i.source:
        raise Malformed("the maps have unlike sources")
    standard, ahead, back = standard_group(f.target)
    n, relations = i.target.n, i.target.relations
    asked, width = transposed(relations + i.matrix, n), len(relations) + i.source.n
    goals = transposed(f.then(ahead).matrix, standard.n)
    tables = {}
    columns = []
    for k, goal in zip(generator_orders(standard), goals):
        if k not in tables:
            tables[k] = solutions(asked, width, scaled_rows(unit_matrix(width), k))
        found = origin_in(tables[k], width, (0,) * len(relations) + goal)
        if found is None:
            return None
        columns.append(found)
    return Map(i.target, standard, transposed(columns, n)).then(back)
