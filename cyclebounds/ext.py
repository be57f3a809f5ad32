"""The groups Ext, the classes of extensions, and their middles (points 5.2 to 5.4, 5.6 and 5.8)."""

from math import gcd

from cyclebounds.build import check_sum, sum_of_groups
from cyclebounds.errors import Malformed
from cyclebounds.exact import generator_orders, origins
from cyclebounds.extension import Extension
from cyclebounds.group import Group, cyclic_group
from cyclebounds.maps import Map, quotient_of, standard_group
from cyclebounds.rows import is_row, joined, parted, scaled, times, transposed, unit_matrix, zero_matrix
from cyclebounds.smith import chained
from cyclebounds.tensor import check_product, combined, products, relation_multiples


def ext_group(a, b):
    """Return Ext of two groups."""
    check_product(a, b)
    sums = combined(transposed(a.relations, a.n), len(a.relations), b)
    return quotient_of(sums.image())[0]


def class_rows(x):
    """Return the rows b_i of B for the relations of A, whose elements are told by i(b_i) of point 5.3."""
    ends = origins(x.p, unit_matrix(x.last().n))
    return origins(x.i, times(x.last().relations, ends, x.middle().n))


def ext_class(x):
    """Return the normal row of the class of an extension."""
    return ext_group(x.last(), x.first()).normal(joined(class_rows(x)))


def extension_of(a, b, c):
    """Return the extension of a by b with the class of the row c, made with this row."""
    if not is_row(c, ext_group(a, b).n):
        raise Malformed("no row of the group Ext")
    middle = middle_of(a, b, c)
    inside = Map(b, middle, unit_matrix(middle.n)[a.n:])
    return Extension(inside, Map(middle, a, unit_matrix(a.n) + zero_matrix(b.n, a.n)))


def middle_of(a, b, c):
    """Return the middle of the extension of a by b that the row c gives."""
    tails = parted(scaled(c, -1), len(a.relations), b.n)
    ahead = [row + tail for row, tail in zip(a.relations, tails)]
    return Group(a.n + b.n, ahead + [(0,) * a.n + row for row in b.relations])


def ext_pulled(f, b):
    """Return the map of the groups Ext that a map gives in the first place."""
    source, target = ext_group(f.target, b), ext_group(f.source, b)
    multiples = transposed(relation_multiples(f), len(f.target.relations))
    return Map(source, target, products(multiples, unit_matrix(b.n)))


def ext_pushed(a, g):
    """Return the map of the groups Ext that a map gives in the second place."""
    source, target = ext_group(a, g.source), ext_group(a, g.target)
    return Map(source, target, products(unit_matrix(len(a.relations)), g.matrix))


def middles(a, b):
    """Return the pairs of the invariants of the middles and the number of classes with such a middle."""
    check_product(a, b)
    check_sum((a, b))
    ahead, behind = generator_orders(standard_group(a)[0]), generator_orders(standard_group(b)[0])
    # All other rounds and endless parts are parts of each middle, and no class has to do with them.
    tied_ahead = [k for k in ahead if any([are_tied(k, other) for other in behind])]
    tied_behind = [k for k in behind if any([are_tied(other, k) for other in ahead])]
    one, two = sum_of_rounds(tied_ahead), sum_of_rounds(tied_behind)
    loose = without(ahead, tied_ahead) + without(behind, tied_behind)
    counts = {}
    for c in ext_group(one, two).all_elements():
        found = with_orders(middle_of(one, two, c).invariants(), loose)
        counts[found] = counts.get(found, 0) + 1
    return tuple(sorted(counts.items()))


def are_tied(k, other):
    """Tell whether a round of the order k and one of another order, 0 for an endless part, have more than one class."""
    return k > 0 and gcd(k, other) > 1


def sum_of_rounds(orders):
    """Return the sum of the groups of one generator with these orders, 0 for endless ones."""
    return sum_of_groups([cyclic_group(k) for k in orders])


def without(orders, gone):
    """Return the orders that are not among those gone."""
    return [k for k in orders if k not in gone]


def with_orders(invariants, orders):
    """Return the invariants of the sum of a group and of groups of one generator with these orders."""
    sizes, rank = invariants
    rounds = [k for k in orders if k > 0]
    found = chained(list(sizes) + rounds)
    return tuple([size for size in found if size > 1]), rank + len(orders) - len(rounds)
