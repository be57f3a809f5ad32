"""Tensor products, groups of maps and Tor (points 4.4 to 4.7).

Several elements of one group, one after the other, are an element of the
tensor product of a group without relations and this group.
"""

from cyclebounds.errors import Malformed, Refused
from cyclebounds.group import MOST_GENERATORS, Group, free_group
from cyclebounds.maps import Map, group_of
from cyclebounds.rows import coordinates, is_row, joined, moved, parted, times, transposed, unit_matrix


def check_product(a, b):
    """Refuse two groups whose tensor product would have too many generators."""
    if a.n * b.n > MOST_GENERATORS:
        raise Refused("large")


def product_of_rows(x, y):
    """Return the row of the products of an item of x and one of y, in the order of point 4.4."""
    return tuple([p * q for p in x for q in y])


def products(one, two):
    """Return the tuple of the products of a row of the one table and a row of the other."""
    return tuple([product_of_rows(x, y) for x in one for y in two])


def tensor_group(a, b):
    """Return the tensor product of two groups."""
    check_product(a, b)
    ahead = products(a.relations, unit_matrix(b.n))
    return Group(a.n * b.n, ahead + products(unit_matrix(a.n), b.relations))


def tensor_of(a, b, x, y):
    """Return the normal row of the product of the elements of two rows."""
    if not is_row(x, a.n) or not is_row(y, b.n):
        raise Malformed("no rows of the groups")
    return tensor_group(a, b).normal(product_of_rows(x, y))


def tensor_map(f, g):
    """Return the map of the tensor products that takes the product of a and b to that of f(a) and g(b)."""
    source, target = tensor_group(f.source, g.source), tensor_group(f.target, g.target)
    return Map(source, target, products(f.matrix, g.matrix))


def rows_of_group(k, group):
    """Return the group of the rows of k elements of a group."""
    return tensor_group(free_group(k), group)


def combined(matrix, k, group):
    """Return the map that takes a row of elements of a group to k sums of multiples of them.

    The multiples for the sum j are the items of the column j of the matrix.
    """
    source = rows_of_group(len(matrix), group)
    return Map(source, rows_of_group(k, group), products(matrix, unit_matrix(group.n)))


def between(part, matrix, other):
    """Return the map of one subgroup to another one, as groups, that a matrix of their groups gives."""
    rows = times(part.rows, matrix, other.group.n)
    return Map(group_of(part)[0], group_of(other)[0], [coordinates(other.rows, row) for row in rows])


def maps_as_rows(a, b):
    """Return the subgroup of the rows of the images of the generators under the maps from a to b."""
    check_product(a, b)
    return combined(transposed(a.relations, a.n), len(a.relations), b).kernel()


def hom_group(a, b):
    """Return the group of the maps from a to b."""
    return group_of(maps_as_rows(a, b))[0]


def hom_into(a, b):
    """Return the map of the group of the maps into that of the rows of images."""
    return group_of(maps_as_rows(a, b))[1]


def hom_of(a, b, x):
    """Return the map from a to b that the element of a row of the group of the maps tells."""
    part = maps_as_rows(a, b)
    if not is_row(x, len(part.rows)):
        raise Malformed("no row of the group of the maps")
    return Map(a, b, parted(moved(x, part.rows, part.group.n), a.n, b.n))


def hom_row(f):
    """Return the normal row of a map in the group of the maps."""
    part = maps_as_rows(f.source, f.target)
    return group_of(part)[0].normal(coordinates(part.rows, joined(f.matrix)))


def hom_map(f, g):
    """Return the map of the groups of maps that takes h to first f, then h, then g."""
    part, other = maps_as_rows(f.target, g.source), maps_as_rows(f.source, g.target)
    return between(part, products(transposed(f.matrix, f.target.n), g.matrix), other)


def relations_as_rows(a, b):
    """Return the subgroup of the rows of elements of b that the relations of a take to 0, as Tor asks."""
    check_product(a, b)
    return combined(a.relations, a.n, b).kernel()


def tor_group(a, b):
    """Return Tor of two groups."""
    return group_of(relations_as_rows(a, b))[0]


def tor_into(a, b):
    """Return the map of Tor into the group of the rows of elements of b."""
    return group_of(relations_as_rows(a, b))[1]


def tor_map(f, b):
    """Return the map of Tor that a map gives."""
    part, other = relations_as_rows(f.source, b), relations_as_rows(f.target, b)
    return between(part, products(relation_multiples(f), unit_matrix(b.n)), other)


def relation_multiples(f):
    """Return, for each relation of the source, the multiples of those of the target whose sum is its image."""
    images = times(f.source.relations, f.matrix, f.target.n)
    return tuple([coordinates(f.target.relations, row) for row in images])
