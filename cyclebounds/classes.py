"""The group of chain maps up to homotopy (point 7.8)."""

from cyclebounds.chain import ChainMap
from cyclebounds.errors import Malformed, Refused
from cyclebounds.group import MOST_GENERATORS, Group
from cyclebounds.rows import coordinates, is_row, joined, kernel, moved, parted, scaled_rows, span, transposed
from cyclebounds.rows import unit_matrix
from cyclebounds.tensor import products


def check_sizes(c, d):
    """Refuse two complexes whose chain maps would have too many items."""
    if sum(sizes_of_matrices(c, d, 0)) > MOST_GENERATORS:
        raise Refused("large")


def sizes_of_matrices(c, d, k):
    """Return the numbers of items of the matrices from each degree n of c to the degree n + k of d."""
    return [c.rank(n) * d.rank(n + k) for n in c.degrees()]


def steps(c, d, k, sign):
    """Return the rows d h + sign h d of all tuples h with one item 1, of matrices to the degrees n + k.

    A tuple of matrices is written as one row here: the rows of all of them, one after the other.
    """
    sizes = sizes_of_matrices(c, d, k - 1)
    width = sum(sizes)
    rows = []
    before = 0
    for n, size in zip(c.degrees(), sizes):
        ahead = products(unit_matrix(c.rank(n)), d.boundary(n + k))
        behind = products(transposed(c.boundary(n + 1), c.rank(n)), unit_matrix(d.rank(n + k)))
        for one, two in zip(ahead, scaled_rows(behind, sign)):
            row = (0,) * before + one + two
            rows.append(row + (0,) * (width - len(row)))
        before = before + size
    return tuple(rows)


def all_chain_maps(c, d):
    """Return the reduced table of all rows of chain maps."""
    return kernel(steps(c, d, 0, -1), sum(sizes_of_matrices(c, d, -1)))


def parted_by_degrees(c, d, k, row):
    """Return the matrices, from each degree n of c to the degree n + k of d, that stand in a row."""
    matrices = []
    for n, size in zip(c.degrees(), sizes_of_matrices(c, d, k)):
        matrices.append(parted(row[:size], c.rank(n), d.rank(n + k)))
        row = row[size:]
    return tuple(matrices)


def row_of_all(matrices):
    """Return the row of the items of some matrices, row by row."""
    return joined([joined(rows) for rows in matrices])


def map_of_row(c, d, row):
    """Return the chain map with a row."""
    return ChainMap(c, d, parted_by_degrees(c, d, 0, row))


def classes_by(table, c, d):
    """Return the group of the chain maps with this reduced table, modulo those that are homotopic to 0."""
    bounding = span(steps(c, d, 1, 1), sum(sizes_of_matrices(c, d, 0)))
    return Group(len(table), [coordinates(table, row) for row in bounding])


def maps_group(c, d):
    """Return the group of the chain maps up to homotopy, and the tuple of the chain maps for its generators."""
    check_sizes(c, d)
    table = all_chain_maps(c, d)
    return classes_by(table, c, d), tuple([map_of_row(c, d, row) for row in table])


def class_of_map(f):
    """Return the normal row of the class of a chain map in the group of the maps of its complexes."""
    c, d = f.source, f.target
    check_sizes(c, d)
    table = all_chain_maps(c, d)
    return classes_by(table, c, d).normal(coordinates(table, row_of_all(f.matrices)))


def map_of_class(c, d, x):
    """Return the sum of the multiples, by the items of a row, of the chain maps for the generators."""
    check_sizes(c, d)
    table = all_chain_maps(c, d)
    if not is_row(x, len(table)):
        raise Malformed("no row of the group of the chain maps")
    return map_of_row(c, d, moved(x, table, sum(sizes_of_matrices(c, d, 0))))
