"""The checker of papers: it multiplies, adds, compares, and takes rests by reduced tables alone (chapter 11)."""

from cyclebounds.chain import ChainMap, commute, identity_chain
from cyclebounds.homotopy import is_homotopy
from cyclebounds.maps import difference, is_within
from cyclebounds.rows import add, blend, dot, first_place, holds, is_matrix, is_row, is_zero_row, moved, scaled
from cyclebounds.rows import scaled_rows, times, unit_matrix, unit_row, zero_matrix
from cyclebounds.standard import lasting
from cyclebounds.whole import is_integer


def is_paper(paper, kind, size):
    """Tell whether a value is a tuple of so many items, the first of which is this kind."""
    return isinstance(paper, tuple) and len(paper) == size and paper[0] == kind


def is_from(value, low):
    """Tell whether a value is an integer that is not below another one."""
    return is_integer(value) and value >= low


def are_matrices_of(value, sizes, widths):
    """Tell whether a value is a tuple of matrices with these numbers of rows and these widths."""
    if not isinstance(value, tuple) or len(value) != len(sizes):
        return False
    return all([is_matrix(rows, size, width) for rows, size, width in zip(value, sizes, widths)])


def bars(t, m, rows, b):
    """Tell whether m is from 2 on, the products of t and the rows are multiples of m, and that of t and b is none."""
    if not is_from(m, 2) or dot(t, b) % m == 0:
        return False
    return all([dot(t, row) % m == 0 for row in rows])


def takes_filling(c, n, z, paper):
    """Tell whether a paper shows that a cycle is a boundary, or that it is none."""
    if is_paper(paper, "filling", 2):
        return c.is_row(n + 1, paper[1]) and c.turned(n + 1, paper[1]) == z
    if not is_paper(paper, "bar", 3):
        return False
    _, t, m = paper
    return c.is_row(n, t) and bars(t, m, c.boundary(n + 1), z)


def takes_homotopic(f, g, paper):
    """Tell whether a paper shows that two chain maps are homotopic, or that they are not."""
    if is_paper(paper, "homotopy", 2):
        return is_homotopy(f, g, paper[1])
    if not is_paper(paper, "bar", 5):
        return False
    _, n, m, z, t = paper
    c, d = f.source, f.target
    if not is_integer(n) or not c.is_row(n, z) or not d.is_row(n, t):
        return False
    if not bars(t, m, d.boundary(n + 1), blend(f.value(n, z), 1, g.value(n, z), -1)):
        return False
    return all([item % m == 0 for item in c.turned(n, z)])


def takes_equivalent(a, b, paper):
    """Tell whether a paper shows that two complexes are equivalent, or that they are not."""
    if is_paper(paper, "equivalence", 5):
        _, f, g, s, t = paper
        return shows_equivalence(a, b, f, g, s, t)
    if not is_paper(paper, "apart", 3):
        return False
    _, one, two = paper
    return shows_standard(a, one) and shows_standard(b, two) and lasting(one[0]) != lasting(two[0])


def shows_equivalence(a, b, f, g, s, t):
    """Tell whether f and g are the matrices of chain maps there and back, s and t of homotopies to the identities."""
    if not is_chain(a, b, f) or not is_chain(b, a, g):
        return False
    ahead, back = ChainMap(a, b, f), ChainMap(b, a, g)
    if not is_homotopy(ahead.then(back), identity_chain(a), s):
        return False
    return is_homotopy(back.then(ahead), identity_chain(b), t)


def is_chain(a, b, matrices):
    """Tell whether a value is the tuple of the matrices of a chain map."""
    return are_matrices_of(matrices, a.ranks, [b.rank(n) for n in a.degrees()]) and commute(a, b, matrices)


def shows_standard(c, value):
    """Tell whether a value is a triple (pieces, changes, backs) that shows the standard form of a complex."""
    if not isinstance(value, tuple) or len(value) != 3:
        return False
    pieces, changes, backs = value
    if not are_pieces(c, pieces):
        return False
    if not are_matrices_of(changes, c.ranks, c.ranks) or not are_matrices_of(backs, c.ranks, c.ranks):
        return False
    below = ()
    for n, change, back in zip(c.degrees(), changes, backs):
        if times(change, back, c.rank(n)) != unit_matrix(c.rank(n)):
            return False
        width = c.rank(n - 1)
        if times(change, c.boundary(n), width) != times(boundary_of_pieces(c, pieces, n), below, width):
            return False
        below = change
    return True


def are_pieces(c, value):
    """Tell whether a value is a tuple of pieces, in the order of point 6.6, whose sum has the ranks of a complex."""
    if not isinstance(value, tuple) or not is_matrix(value, len(value), 2):
        return False
    if not all([s >= 0 for _, s in value]) or not all([is_ordered(v, w) for v, w in zip(value, value[1:])]):
        return False
    ends = [n for n, _ in value] + [n + 1 for n, s in value if s > 0]
    counts = {}
    for n in ends:
        counts[n] = counts.get(n, 0) + 1
    if not all([n in c.degrees() for n in counts]):
        return False
    return all([counts.get(n, 0) == c.rank(n) for n in c.degrees()])


def is_ordered(piece, other):
    """Tell whether a piece may stand directly before another one."""
    (n, s), (m, t) = piece, other
    if n != m:
        return n < m
    return t == 0 or s > 0 and t % s == 0


def boundary_of_pieces(c, pieces, n):
    """Return the boundary of a degree of the standard complex with the ranks of a complex and these pieces."""
    sizes = [s for m, s in pieces if m == n - 1 and s > 0]
    # In the degree below the upper ends stand before the lower ones.
    first = len([s for m, s in pieces if m == n - 2 and s > 0])
    width = c.rank(n - 1)
    rows = tuple([scaled(unit_row(width, first + i), s) for i, s in enumerate(sizes)])
    return rows + zero_matrix(c.rank(n) - len(sizes), width)


def takes_exact(f, g, paper):
    """Tell whether a paper shows that the image of f is the kernel of g, or that it is not."""
    if is_paper(paper, "beside", 2):
        return shows_beside(f, g, paper[1])
    if is_paper(paper, "left", 4):
        _, y, t, m = paper
        return shows_left(f, g, y, t, m)
    if not is_paper(paper, "exact", 4):
        return False
    _, u, back, lifts = paper
    return shows_exact(f, g, u, back, lifts)


def shows_beside(f, g, x):
    """Tell whether x is a row of the source of f that first f and then g does not take to 0."""
    if not is_row(x, f.source.n):
        return False
    y = moved(x, f.matrix, f.target.n)
    return not holds(g.target.relations, moved(y, g.matrix, g.target.n))


def shows_left(f, g, y, t, m):
    """Tell whether y is a row that g takes to 0, and t and m bar it from the image of f."""
    if not is_row(y, g.source.n) or not is_row(t, g.source.n):
        return False
    if not holds(g.target.relations, moved(y, g.matrix, g.target.n)):
        return False
    return bars(t, m, f.matrix + f.target.relations, y)


def shows_exact(f, g, u, back, lifts):
    """Tell whether first f and then g is 0, and each row that g takes to 0 is shown to be in the image of f."""
    width, relations = g.target.n, g.target.relations
    if not is_within(times(f.matrix, g.matrix, width), relations):
        return False
    rows = g.matrix + relations
    size = len(rows)
    if not is_matrix(u, size, size) or not is_matrix(back, size, size) or times(u, back, size) != unit_matrix(size):
        return False
    product = times(u, rows, width)
    if not are_steps(product, width) or not isinstance(lifts, tuple):
        return False
    asked = [line[:g.source.n] for line, row in zip(u, product) if is_zero_row(row)]
    return len(lifts) == len(asked) and all([is_lift(f, lift, y) for lift, y in zip(lifts, asked)])


def are_steps(rows, width):
    """Tell whether the first items other than 0 stand at ascending places, and rows of zeros behind all others."""
    last = -1
    for row in rows:
        place = first_place(row)
        if place < width and place <= last:
            return False
        last = place
    return True


def is_lift(f, lift, y):
    """Tell whether a value is a pair of rows that show y to be in the image of f."""
    if not isinstance(lift, tuple) or len(lift) != 2:
        return False
    x, r = lift
    relations = f.target.relations
    if not is_row(x, f.source.n) or not is_row(r, len(relations)):
        return False
    return add(moved(x, f.matrix, f.target.n), moved(r, relations, f.target.n)) == y


def takes_split(extension, paper):
    """Tell whether a paper shows that an extension has a section, or that it has none."""
    if is_paper(paper, "section", 2):
        return shows_section(extension, paper[1])
    if not is_paper(paper, "bar", 5):
        return False
    _, k, e, t, m = paper
    middle, last = extension.middle(), extension.last()
    if not is_from(k, 1) or not is_row(e, middle.n) or not is_row(t, middle.n):
        return False
    if not holds(last.relations, scaled(moved(e, extension.p.matrix, last.n), k)):
        return False
    return bars(t, m, middle.relations + scaled_rows(extension.i.matrix, k), scaled(e, k))


def shows_section(extension, matrix):
    """Tell whether a value is the matrix of a section."""
    middle, last = extension.middle(), extension.last()
    if not is_matrix(matrix, last.n, middle.n):
        return False
    if not is_within(times(last.relations, matrix, middle.n), middle.relations):
        return False
    return is_within(difference(times(matrix, extension.p.matrix, last.n), unit_matrix(last.n)), last.relations)


def takes_alike(one, two, paper):
    """Tell whether a paper shows that two extensions are alike, or that they are not."""
    if is_paper(paper, "alike", 2):
        return shows_alike(one, two, paper[1])
    if not is_paper(paper, "apart", 8):
        return False
    _, k, e, e2, b, b2, t, m = paper
    first, last = one.first(), one.last()
    if not is_from(k, 1) or not is_row(e, one.middle().n) or not is_row(e2, two.middle().n):
        return False
    if not all([is_row(row, first.n) for row in (b, b2, t)]):
        return False
    ends = blend(moved(e, one.p.matrix, last.n), 1, moved(e2, two.p.matrix, last.n), -1)
    if not holds(last.relations, ends) or not is_multiple(one, k, e, b) or not is_multiple(two, k, e2, b2):
        return False
    return bars(t, m, first.relations + scaled_rows(unit_matrix(first.n), k), blend(b, 1, b2, -1))


def is_multiple(x, k, e, b):
    """Tell whether k times a row of the middle of an extension is i(b)."""
    middle = x.middle()
    return holds(middle.relations, blend(e, k, moved(b, x.i.matrix, middle.n), -1))


def shows_alike(one, two, matrix):
    """Tell whether a value is the matrix of a map of the middles that fits the maps of both extensions."""
    start, middle, last = one.middle(), two.middle(), one.last()
    if not is_matrix(matrix, start.n, middle.n):
        return False
    if not is_within(times(start.relations, matrix, middle.n), middle.relations):
        return False
    if not is_within(difference(times(one.i.matrix, matrix, middle.n), two.i.matrix), middle.relations):
        return False
    return is_within(difference(times(matrix, two.p.matrix, last.n), one.p.matrix), last.relations)
