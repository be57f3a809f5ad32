"""Cones, and equivalences of complexes (points 7.5 to 7.7)."""

from cyclebounds.chain import ChainMap, identity_chain
from cyclebounds.complexes import Complex, moved_by
from cyclebounds.homology import class_of, cycle_of, filling
from cyclebounds.homotopy import homotopy
from cyclebounds.rows import scaled, times, unit_matrix, zero_matrix
from cyclebounds.standard import same_homology, sizes_below, standard


def cone(f):
    """Return the cone of a chain map."""
    c, d = f.source, f.target
    degrees = [n + 1 for n in c.degrees()] + list(d.degrees())
    low = min(degrees) if degrees else d.low
    top = max(degrees) if degrees else d.low - 1
    ranks = [c.rank(n - 1) + d.rank(n) for n in range(low, top + 1)]
    return Complex(low, ranks, [cone_boundary(f, n) for n in range(low + 1, top + 1)])


def cone_boundary(f, n):
    """Return the boundary of a degree of the cone, that takes (x, y) to (- d x, f(x) + d y)."""
    c, d = f.source, f.target
    ahead = [scaled(row, -1) + image for row, image in zip(c.boundary(n - 1), f.matrix(n - 1))]
    return ahead + [(0,) * c.rank(n - 2) + row for row in d.boundary(n)]


def into_cone(f):
    """Return the chain map of the target into the cone."""
    c, d = f.source, f.target
    matrices = [[(0,) * c.rank(n - 1) + row for row in unit_matrix(d.rank(n))] for n in d.degrees()]
    return ChainMap(d, cone(f), matrices)


def out_of_cone(f):
    """Return the chain map of the cone onto the source moved by 1."""
    c, d, source = f.source, f.target, cone(f)
    matrices = [unit_matrix(c.rank(n - 1)) + zero_matrix(d.rank(n), c.rank(n - 1)) for n in source.degrees()]
    return ChainMap(source, moved_by(c, 1), matrices)


def is_equivalence(f):
    """Tell whether a chain map is an equivalence."""
    if not same_homology(f.source, f.target):
        return False
    # A map between isomorphic groups with finitely many generators has an inverse if it is onto.
    return all([f.induced(n).is_onto() for n in f.source.degrees()])


def equivalence_of(f):
    """Return (g, s, t): a chain map back and homotopies to the identities, or None if f is no equivalence."""
    if not is_equivalence(f):
        return None
    one, back = identity_chain(f.source), chain_back(f)
    # First f and then back is the identity and a map that induces 0. Such a map, made twice,
    # is homotopic to 0: so minus the map, in place of it, makes up for it.
    g = back.then(one.scaled(2) - f.then(back))
    return g, homotopy(f.then(g), one), homotopy(g.then(f), identity_chain(f.target))


def chain_back(f):
    """Return a chain map back that induces the inverses of the maps that an equivalence induces."""
    c, d = f.source, f.target
    changes, backs = standard(d)
    upper = []
    matrices = []
    for n, change, back in zip(d.degrees(), changes, backs):
        turning = f.induced(n).inverse()
        # The rows of the basis behind the upper ends are cycles.
        closed = [cycle_of(c, n, turning.value(class_of(d, n, row))) for row in change[len(upper):]]
        matrices.append(times(back, upper + closed, c.rank(n)))
        upper = [filling(c, n, scaled(z, s)) for z, s in zip(closed, sizes_below(d, n + 1))]
    return ChainMap(d, c, matrices)


def equivalence(a, b):
    """Return (f, g, s, t) with an equivalence f of two complexes, one back, and homotopies, or None."""
    if not same_homology(a, b):
        return None
    f, g = matching(a, b), matching(b, a)
    return f, g, homotopy(f.then(g), identity_chain(a)), homotopy(g.then(f), identity_chain(b))


def matching(a, b):
    """Return the chain map that takes the pieces that last to each other, and all others to 0."""
    _, backs = standard(a)
    changes, _ = standard(b)
    bases = dict(zip(b.degrees(), changes))
    matrices = []
    for n, back in zip(a.degrees(), backs):
        images = [(0,) * b.rank(n) for _ in range(a.rank(n))]
        for place, other in zip(lasting_places(a, n), lasting_places(b, n)):
            images[place] = bases[n][other]
        matrices.append(times(back, images, b.rank(n)))
    return ChainMap(a, b, matrices)


def lasting_places(c, n):
    """Return the places of the rows of the standard basis of a degree that are no ends of pieces (n, 1)."""
    sizes = sizes_below(c, n) + sizes_below(c, n + 1)
    return [place for place in range(c.rank(n)) if place >= len(sizes) or sizes[place] > 1]
