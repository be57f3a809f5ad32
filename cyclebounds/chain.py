"""Chain maps and the maps that they induce on homology (point 7.1)."""

from cyclebounds.complexes import Complex, are_matrices
from cyclebounds.errors import Malformed, Refused
from cyclebounds.homology import cycles, homology
from cyclebounds.maps import Map, difference
from cyclebounds.rows import add, as_table, coordinates, moved, scaled_rows, times, unit_matrix, zero_matrix


class ChainMap:
    """The chain map from a complex to a complex with a matrix for each degree of the first one."""

    def __init__(self, source, target, matrices):
        if not isinstance(source, Complex) or not isinstance(target, Complex):
            raise Malformed("a chain map is from a complex to a complex")
        if not are_matrices(matrices, source.ranks, [target.rank(n) for n in source.degrees()]):
            raise Malformed("no matrices between the ranks of these complexes")
        self.source = source
        self.target = target
        self.matrices = tuple([as_table(rows) for rows in matrices])
        if not commute(source, target, self.matrices):
            raise Refused("commute")

    def matrix(self, n):
        """Return the matrix of a degree."""
        index = n - self.source.low
        return self.matrices[index] if 0 <= index < len(self.matrices) else ()

    def value(self, n, x):
        """Return the image of a row of a degree."""
        return moved(x, self.matrix(n), self.target.rank(n))

    def __eq__(self, other):
        if not isinstance(other, ChainMap):
            return False
        return self.source == other.source and self.target == other.target and self.matrices == other.matrices

    def __add__(self, other):
        check_parallel(self, other)
        return ChainMap(self.source, self.target, [sum_of_matrices(one, two) for one, two in
                                                   zip(self.matrices, other.matrices)])

    def __sub__(self, other):
        check_parallel(self, other)
        return ChainMap(self.source, self.target, [difference(one, two) for one, two in
                                                   zip(self.matrices, other.matrices)])

    def __neg__(self):
        return ChainMap(self.source, self.target, [scaled_rows(rows, -1) for rows in self.matrices])

    def scaled(self, c):
        """Return the multiple of the chain map by an integer."""
        return ChainMap(self.source, self.target, [scaled_rows(rows, c) for rows in self.matrices])

    def then(self, g):
        """Return first this chain map and then g."""
        if self.target != g.source:
            raise Malformed("the second chain map does not begin where the first one ends")
        matrices = [times(self.matrix(n), g.matrix(n), g.target.rank(n)) for n in self.source.degrees()]
        return ChainMap(self.source, g.target, matrices)

    def induced(self, n):
        """Return the map of the homology groups of a degree."""
        table = cycles(self.target, n)
        images = [coordinates(table, self.value(n, row)) for row in cycles(self.source, n)]
        return Map(homology(self.source, n), homology(self.target, n), images)


def commute(source, target, matrices):
    """Tell whether matrices, one for each degree of the source, take boundaries to boundaries of the images."""
    below = ()
    for n, rows in zip(source.degrees(), matrices):
        width = target.rank(n - 1)
        if times(rows, target.boundary(n), width) != times(source.boundary(n), below, width):
            return False
        below = rows
    return True


def check_parallel(f, g):
    """Raise Malformed if two chain maps have unlike sources or unlike targets."""
    if f.source != g.source or f.target != g.target:
        raise Malformed("the chain maps are not between the same complexes")


def sum_of_matrices(one, two):
    """Return the sum of two matrices."""
    return tuple([add(v, w) for v, w in zip(one, two)])


def identity_chain(c):
    """Return the chain map of a complex to itself with the unit matrices."""
    return ChainMap(c, c, [unit_matrix(rank) for rank in c.ranks])


def zero_chain(c, d):
    """Return the chain map with zeros from a complex to a complex."""
    return ChainMap(c, d, [zero_matrix(c.rank(n), d.rank(n)) for n in c.degrees()])
