"""Extensions: sections and bars, those that are alike, new ones of old ones (points 5.1, 5.5 and 5.6)."""

from cyclebounds.build import into_pullback, out_of_pushout, pullback, pushout
from cyclebounds.errors import Malformed, Refused
from cyclebounds.exact import generator_orders, is_exact, lifted, origins
from cyclebounds.maps import Map, difference, identity_map, quotient_of, standard_group, zero_map
from cyclebounds.rows import add, blend, moved, origin_in, scaled, scaled_rows, solutions, times, unit_matrix
from cyclebounds.smith import bar
from cyclebounds.subgroup import Subgroup


class Extension:
    """The extension of a group A by a group B with the maps i, from B to the middle, and p, from it to A."""

    def __init__(self, i, p):
        if not isinstance(i, Map) or not isinstance(p, Map) or i.target != p.source:
            raise Malformed("an extension is a map and one that begins where it ends")
        if not i.is_one_to_one() or not p.is_onto() or not is_exact(i, p):
            raise Refused("exact")
        self.i = i
        self.p = p

    def first(self):
        """Return the group B, by which it is an extension."""
        return self.i.source

    def middle(self):
        """Return the group between both maps."""
        return self.p.source

    def last(self):
        """Return the group A, of which it is an extension."""
        return self.p.target


def section(x):
    """Return a map h of A to the middle such that first h and then p is the identity, or None."""
    return lifted(identity_map(x.last()), x.p)


def split_bar(x):
    """Return None if there is a section, otherwise a bar (k, e, t, m) of point 5.5."""
    standard, _, back = standard_group(x.last())
    n, relations = x.middle().n, x.middle().relations
    for k, e in zip(generator_orders(standard), origins(x.p, back.matrix)):
        # A section needs an element e + i(b) whose multiple by k is 0.
        found = bar(relations + scaled_rows(x.i.matrix, k), n, scaled(e, k))
        if found is not None:
            t, m = found
            return k, e, t, m
    return None


def check_ends(x, y):
    """Raise Malformed if two extensions are not of one group by one group."""
    if x.first() != y.first() or x.last() != y.last():
        raise Malformed("extensions of unlike groups")


def chosen_over(x, rows, orders):
    """Return rows e of the middle with p(e) those told, and rows b of B with i(b) their multiples by the orders."""
    ends = origins(x.p, rows)
    return ends, origins(x.i, [scaled(e, k) for e, k in zip(ends, orders)])


def alike(x, y):
    """Return a map h of the middles that fits the maps of both extensions, or None if there is none."""
    check_ends(x, y)
    standard, ahead, back = standard_group(x.last())
    orders = generator_orders(standard)
    ends, roots = chosen_over(x, back.matrix, orders)
    others, other_roots = chosen_over(y, back.matrix, orders)
    shifts = quotients(x.first(), orders, difference(roots, other_roots))
    if shifts is None:
        return None
    n = y.middle().n
    images = [add(e, moved(shift, y.i.matrix, n)) for e, shift in zip(others, shifts)]
    # Each generator of the middle is a sum of multiples of the chosen rows and some i(b).
    parts = x.p.then(ahead).matrix
    left = difference(unit_matrix(x.middle().n), times(parts, ends, x.middle().n))
    tails = times(origins(x.i, left), y.i.matrix, n)
    rows = [add(v, w) for v, w in zip(times(parts, images, n), tails)]
    return Map(x.middle(), y.middle(), [y.middle().normal(row) for row in rows])


def alike_bar(x, y):
    """Return None if two extensions are alike, otherwise (k, e, e2, b, b2, t, m) as point 11.7 tells."""
    check_ends(x, y)
    standard, _, back = standard_group(x.last())
    orders = generator_orders(standard)
    ends, roots = chosen_over(x, back.matrix, orders)
    others, other_roots = chosen_over(y, back.matrix, orders)
    n, relations = x.first().n, x.first().relations
    for k, e, e2, b, b2 in zip(orders, ends, others, roots, other_roots):
        # Other choices change b - b2 by multiples of k.
        found = bar(relations + scaled_rows(unit_matrix(n), k), n, blend(b, 1, b2, -1))
        if found is not None:
            t, m = found
            return k, e, e2, b, b2, t, m
    return None


def quotients(group, orders, rows):
    """Return, for each order k and row, one whose multiple by k is its element; None if one has none."""
    n = group.n
    tables = {}
    found = []
    for k, row in zip(orders, rows):
        if k not in tables:
            tables[k] = solutions(scaled_rows(unit_matrix(n), k), n, group.relations)
        quotient = origin_in(tables[k], n, row)
        if quotient is None:
            return None
        found.append(quotient)
    return tuple(found)


def pulled(x, f):
    """Return the extension of the source of f that f gives, and the map of its middle to that of x."""
    _, across, down = pullback(x.p, f)
    inside = into_pullback(x.p, f, x.i, zero_map(x.first(), f.source))
    return Extension(inside, down), across


def pushed(x, g):
    """Return the extension by the target of g that g gives, and the map of the middle of x to its middle."""
    _, across, inside = pushout(x.i, g)
    down = out_of_pushout(x.i, g, x.p, zero_map(g.target, x.last()))
    return Extension(inside, down), across


def baer_sum(x, y):
    """Return an extension whose class is the sum of the classes of two extensions."""
    check_ends(x, y)
    first = x.first()
    _, across, _ = pullback(x.p, y.p)
    one = into_pullback(x.p, y.p, x.i, zero_map(first, y.middle()))
    two = into_pullback(x.p, y.p, zero_map(first, x.middle()), y.i)
    # The pairs of i(b) and -i(b) are taken to 0: so b may stand at either place.
    middle, onto = quotient_of(Subgroup(one.target, (one - two).matrix))
    return Extension(one.then(onto), Map(middle, x.last(), across.then(x.p).matrix))
