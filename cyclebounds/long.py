"""Short rows of complexes, connecting maps and long rows, and two rows of groups (chapter 8)."""

from cyclebounds.chain import ChainMap
from cyclebounds.cone import into_cone, out_of_cone
from cyclebounds.errors import Malformed, Refused
from cyclebounds.exact import is_exact, origins
from cyclebounds.homology import cycles, homology
from cyclebounds.maps import Map, group_of, quotient_of
from cyclebounds.rows import coordinates, kernel, origin_in, solutions, span, times, unit_matrix
from cyclebounds.tensor import between


class ShortRow:
    """The short row of two chain maps, f from A to B and g from B to C."""

    def __init__(self, f, g):
        if not isinstance(f, ChainMap) or not isinstance(g, ChainMap) or f.target != g.source:
            raise Malformed("a short row is a chain map and one that begins where it ends")
        if not are_short(f, g):
            raise Refused("exact")
        self.f = f
        self.g = g

    def connecting(self, n):
        """Return the map from the homology of C in n to that of A in n - 1."""
        a, b, c = self.f.source, self.f.target, self.g.target
        ahead = solutions(self.g.matrix(n), c.rank(n), ())
        back = solutions(self.f.matrix(n - 1), b.rank(n - 1), ())
        table, target = cycles(a, n - 1), homology(a, n - 1)
        images = []
        for z in cycles(c, n):
            y = origin_in(ahead, c.rank(n), z)
            x = origin_in(back, b.rank(n - 1), b.turned(n, y))
            images.append(target.normal(coordinates(table, x)))
        return Map(homology(c, n), target, images)

    def long_row(self, high, low):
        """Return the maps of the long row that begin at a group of a degree from high down to low."""
        found = []
        for n in range(high, low - 1, -1):
            found = found + [self.f.induced(n), self.g.induced(n), self.connecting(n)]
        return tuple(found)


def are_short(f, g):
    """Tell whether, in each degree, f is one to one, g onto, and f gives just what g takes to 0."""
    a, b, c = f.source, f.target, g.target
    if any([b.rank(n) != a.rank(n) + c.rank(n) for n in a.degrees() + b.degrees() + c.degrees()]):
        return False
    for n in b.degrees():
        # With such ranks f is one to one if its rows span the whole kernel of g, and g is onto.
        if span(f.matrix(n), b.rank(n)) != kernel(g.matrix(n), c.rank(n)):
            return False
        if span(g.matrix(n), c.rank(n)) != unit_matrix(c.rank(n)):
            return False
    return True


def cone_row(f):
    """Return the short row of the target, the cone, and the source moved by 1."""
    return ShortRow(into_cone(f), out_of_cone(f))


def six_groups(f, g, i, j, a, b, c):
    """Return the five maps of the row of the kernels of a, b, c and of their targets modulo the images."""
    check_two_rows(f, g, i, j, a, b, c)
    one, two, three = a.kernel(), b.kernel(), c.kernel()
    left, middle, right = [quotient_of(h.image())[0] for h in (a, b, c)]
    # All choices on the way from the kernel of c to B, to E and to D lead to one class.
    ends = times(origins(g, three.rows), b.matrix, b.target.n)
    connecting = Map(group_of(three)[0], left, [left.normal(row) for row in origins(i, ends)])
    return (between(one, f.matrix, two), between(two, g.matrix, three), connecting,
            Map(left, middle, i.matrix), Map(middle, right, j.matrix))


def check_two_rows(f, g, i, j, a, b, c):
    """Raise an error if seven maps are not two rows, exact as point 8.5 asks, and three maps between them."""
    if not all([isinstance(h, Map) for h in (f, g, i, j, a, b, c)]):
        raise Malformed("seven maps are asked for")
    if [h.source for h in (g, j, a, b, c)] != [f.target, i.target, f.source, f.target, g.target]:
        raise Malformed("the sources are not as told")
    if [h.target for h in (a, b, c)] != [i.source, i.target, j.target]:
        raise Malformed("the targets are not as told")
    if not g.is_onto() or not i.is_one_to_one() or not is_exact(f, g) or not is_exact(i, j):
        raise Refused("rows")
    if f.then(b) != a.then(i) or g.then(c) != b.then(j):
        raise Refused("commute")
