"""Maps of groups, given by matrices (points 3.1 to 3.4)."""

from cyclebounds.errors import Malformed, Refused
from cyclebounds.group import Group, are_isomorphic
from cyclebounds.rows import add, are_rows, as_table, blend, coordinates, holds, is_row, moved, origin_in
from cyclebounds.rows import preimage, rest, scaled, scaled_rows, solutions, times, transposed
from cyclebounds.rows import unit_matrix, unit_row, zero_matrix
from cyclebounds.smith import inverse, smith
from cyclebounds.subgroup import Subgroup


class Map:
    """The map from a group to a group that takes the generators to the rows of a matrix."""

    def __init__(self, source, target, matrix):
        if not isinstance(source, Group) or not isinstance(target, Group):
            raise Malformed("a map is from a group to a group")
        if not are_rows(matrix, target.n) or len(matrix) != source.n:
            raise Malformed("no matrix between the generators of these groups")
        self.source = source
        self.target = target
        self.matrix = as_table(matrix)
        if not is_within(times(source.relations, self.matrix, target.n), target.relations):
            raise Refused("relations")

    def value(self, x):
        """Return the normal row of the image of the element of a row."""
        if not is_row(x, self.source.n):
            raise Malformed("no row of the source")
        return rest(self.target.relations, moved(x, self.matrix, self.target.n))

    def __eq__(self, other):
        if not isinstance(other, Map):
            return False
        if not are_alongside(self, other):
            return False
        return is_within(difference(self.matrix, other.matrix), self.target.relations)

    def __add__(self, other):
        check_alongside(self, other)
        return Map(self.source, self.target, [add(v, w) for v, w in zip(self.matrix, other.matrix)])

    def __sub__(self, other):
        check_alongside(self, other)
        return Map(self.source, self.target, difference(self.matrix, other.matrix))

    def __neg__(self):
        return Map(self.source, self.target, scaled_rows(self.matrix, -1))

    def scaled(self, k):
        """Return the multiple of the map by an integer."""
        return Map(self.source, self.target, scaled_rows(self.matrix, k))

    def then(self, g):
        """Return first this map and then g."""
        if self.target != g.source:
            raise Malformed("the second map does not begin where the first one ends")
        return Map(self.source, g.target, times(self.matrix, g.matrix, g.target.n))

    def kernel(self):
        """Return the subgroup of the source of all elements that go to 0."""
        return Subgroup(self.source, preimage(self.matrix, self.target.n, self.target.relations))

    def image(self):
        """Return the subgroup of the target of all values."""
        return Subgroup(self.target, self.matrix)

    def is_zero(self):
        """Tell whether the map takes everything to 0."""
        return is_within(self.matrix, self.target.relations)

    def is_one_to_one(self):
        """Tell whether only 0 goes to 0."""
        return self.kernel().rows == self.source.relations

    def is_onto(self):
        """Tell whether each element of the target is a value."""
        return self.image().index() == 1

    def inverse(self):
        """Return the map back."""
        if not self.is_one_to_one() or not self.is_onto():
            raise Refused("inverse")
        n = self.target.n
        table = solutions(self.matrix, n, self.target.relations)
        return Map(self.target, self.source, [origin_in(table, n, row) for row in unit_matrix(n)])


def are_alongside(f, g):
    """Tell whether two maps have one source and one target."""
    return f.source == g.source and f.target == g.target


def check_alongside(f, g):
    """Raise Malformed if two maps have unlike sources or unlike targets."""
    if not are_alongside(f, g):
        raise Malformed("the maps are not between the same groups")


def difference(one, two):
    """Return a matrix less another one, row by row."""
    return tuple([blend(v, 1, w, -1) for v, w in zip(one, two)])


def is_within(rows, space):
    """Tell whether all rows are in a lattice."""
    return all([holds(space, row) for row in rows])


def identity_map(g):
    """Return the map of a group to itself with the unit matrix."""
    return Map(g, g, unit_matrix(g.n))


def zero_map(a, b):
    """Return the map with zeros from a group to a group."""
    return Map(a, b, zero_matrix(a.n, b.n))


def group_of(subgroup):
    """Return a subgroup as a group of its own, and the map of it into the group."""
    relations = [coordinates(subgroup.rows, row) for row in subgroup.group.relations]
    own = Group(len(subgroup.rows), relations)
    return own, Map(own, subgroup.group, subgroup.rows)


def quotient_of(subgroup):
    """Return the group modulo a subgroup, and the map of the group onto it."""
    group = subgroup.group
    onto = Group(group.n, subgroup.rows)
    return onto, Map(group, onto, unit_matrix(group.n))


def standard_group(g):
    """Return the standard group, a map from the group to it, and its inverse."""
    _, turning, sizes = smith(g.relations, g.n)
    kept = [i for i in range(g.n) if i >= len(sizes) or sizes[i] > 1]
    orders = [sizes[i] for i in kept if i < len(sizes)]
    n = len(kept)
    standard = Group(n, [scaled(unit_row(n, i), order) for i, order in enumerate(orders)])
    columns, back = transposed(turning, g.n), inverse(turning)
    ahead = transposed([columns[i] for i in kept], g.n)
    return (standard, Map(g, standard, [standard.normal(row) for row in ahead]),
            Map(standard, g, [g.normal(back[i]) for i in kept]))


def isomorphism(a, b):
    """Return a map from a group to a group that has an inverse, or None if there is none."""
    if not are_isomorphic(a, b):
        return None
    # Isomorphic groups have one and the same standard group.
    _, ahead, _ = standard_group(a)
    _, _, back = standard_group(b)
    return ahead.then(back)
