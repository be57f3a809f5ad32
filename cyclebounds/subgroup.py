"""Subgroups of groups, given by the lattices of the rows of their elements (points 2.5 and 2.6)."""

from cyclebounds.errors import Malformed
from cyclebounds.group import Group, product_of_pivots
from cyclebounds.rows import are_rows, as_table, common_part, holds, is_row, kernel, preimage
from cyclebounds.rows import scaled_rows, span, transposed, unit_matrix
from cyclebounds.whole import is_natural


class Subgroup:
    """The subgroup of a group that the elements of some rows span."""

    def __init__(self, group, rows):
        if not isinstance(group, Group) or not are_rows(rows, group.n):
            raise Malformed("a subgroup is a group and a list of rows of it")
        self.group = group
        self.rows = span(as_table(rows) + group.relations, group.n)

    def holds(self, value):
        """Tell whether a value is a row of the group whose element is in the subgroup."""
        return is_row(value, self.group.n) and holds(self.rows, value)

    def index(self):
        """Return the number of cosets, 0 if there is no end of them."""
        return product_of_pivots(self.rows, self.group.n)

    def is_inside(self, other):
        """Tell whether the subgroup is contained in another one of the same group."""
        check_one_group(self, other)
        return all([holds(other.rows, row) for row in self.rows])

    def __eq__(self, other):
        return isinstance(other, Subgroup) and self.group == other.group and self.rows == other.rows


def check_one_group(a, b):
    """Raise Malformed if two subgroups are of unlike groups."""
    if a.group != b.group:
        raise Malformed("subgroups of unlike groups")


def check_natural(k):
    """Raise Malformed if a value is no integer from 0 on."""
    if not is_natural(k):
        raise Malformed("no integer from 0 on")


def whole(group):
    """Return a group as a subgroup of itself."""
    return Subgroup(group, unit_matrix(group.n))


def zero(group):
    """Return the subgroup of the element 0 alone."""
    return Subgroup(group, ())


def sum_of_subgroups(a, b):
    """Return the subgroup of the sums of an element of the one and one of the other."""
    check_one_group(a, b)
    return Subgroup(a.group, a.rows + b.rows)


def meet(a, b):
    """Return the subgroup of the elements that are in both."""
    check_one_group(a, b)
    return Subgroup(a.group, common_part(a.rows, b.rows, a.group.n))


def multiples(group, k):
    """Return the subgroup of the multiples of a group by k."""
    check_natural(k)
    return Subgroup(group, scaled_rows(unit_matrix(group.n), k))


def annulled(group, k):
    """Return the subgroup of the elements whose multiple by k is 0."""
    check_natural(k)
    return Subgroup(group, preimage(scaled_rows(unit_matrix(group.n), k), group.n, group.relations))


def torsion(group):
    """Return the subgroup of the elements whose order is not endless."""
    n, relations = group.n, group.relations
    # A multiple of a row is a sum of relations if all that annuls the relations annuls the row.
    annulling = kernel(transposed(relations, n), len(relations))
    return Subgroup(group, kernel(transposed(annulling, n), len(annulling)))
