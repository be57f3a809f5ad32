"""Rows of six groups that an extension and a group give (point 5.7)."""

from cyclebounds.ext import class_rows, ext_group, ext_pulled, ext_pushed
from cyclebounds.maps import Map, identity_map
from cyclebounds.rows import joined, parted, times, transposed, unit_matrix
from cyclebounds.tensor import hom_into, hom_map, products, relation_multiples, tensor_group, tensor_map
from cyclebounds.tensor import tor_into, tor_map


def six_out(x, g):
    """Return the five maps of the row of the groups of maps to g and of Ext with it."""
    same = identity_map(g)
    return (hom_map(x.p, same), hom_map(x.i, same), connecting_out(x, g), ext_pulled(x.p, g), ext_pulled(x.i, g))


def connecting_out(x, g):
    """Return the map that takes h, from B to g, to the class of the extension that h gives."""
    into, target = hom_into(x.first(), g), ext_group(x.last(), g)
    # The images of the b_i are sums of the images of the generators of B.
    sums = products(transposed(class_rows(x), x.first().n), unit_matrix(g.n))
    return Map(into.source, target, times(into.matrix, sums, target.n))


def six_in(g, x):
    """Return the five maps of the row of the groups of maps from g and of Ext with it."""
    same = identity_map(g)
    return (hom_map(same, x.i), hom_map(same, x.p), connecting_in(g, x), ext_pushed(g, x.i), ext_pushed(g, x.p))


def connecting_in(g, x):
    """Return the map that takes h, from g to A, to the class of the extension that h gives."""
    into, rows = hom_into(g, x.last()), class_rows(x)
    maps = [Map(g, x.last(), parted(row, g.n, x.last().n)) for row in into.matrix]
    images = [joined(times(relation_multiples(h), rows, x.first().n)) for h in maps]
    return Map(into.source, ext_group(g, x.first()), images)


def six_tensor(x, g):
    """Return the five maps of the row of Tor and of the tensor products with g."""
    same = identity_map(g)
    return (tor_map(x.i, g), tor_map(x.p, g), connecting_tensor(x, g), tensor_map(x.i, same), tensor_map(x.p, same))


def connecting_tensor(x, g):
    """Return the map that takes a row of elements y_i of Tor to the sum of the products of b_i and y_i."""
    into, target = tor_into(x.last(), g), tensor_group(x.first(), g)
    return Map(into.source, target, times(into.matrix, products(class_rows(x), unit_matrix(g.n)), target.n))
