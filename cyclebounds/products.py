"""Products of complexes, complexes of matrices, cross maps and the row of Kuenneth (points 9.1 to 9.4)."""

from cyclebounds.build import sum_of_groups
from cyclebounds.classes import parted_by_degrees, row_of_all, sizes_of_matrices, steps
from cyclebounds.complexes import Complex, check_ranks
from cyclebounds.extension import Extension
from cyclebounds.homology import cycles, homology
from cyclebounds.maps import Map, isomorphism, quotient_of
from cyclebounds.rows import add, coordinates, scaled, unit_matrix
from cyclebounds.tensor import product_of_rows, tensor_group, tor_group
from cyclebounds.whole import sign_of


def sizes_of_products(c, d, n):
    """Return the numbers of the basis rows of the products of each degree p of c and the degree n - p of d."""
    return [c.rank(p) * d.rank(n - p) for p in c.degrees()]


def tensor_complex(c, d):
    """Return the product of two complexes."""
    low = c.low + d.low
    count = len(c.ranks) + len(d.ranks) - 1 if c.ranks and d.ranks else 0
    ranks = [sum(sizes_of_products(c, d, n)) for n in range(low, low + count)]
    check_ranks(low, ranks)
    return Complex(low, ranks, [product_boundary(c, d, n) for n in range(low + 1, low + count)])


def product_boundary(c, d, n):
    """Return the boundary of a degree of the product, that takes x y to (d x) y and (-1)^p x (d y)."""
    rows = []
    for p in c.degrees():
        q = n - p
        ahead = list(zip(unit_matrix(c.rank(p)), c.boundary(p)))
        behind = list(zip(unit_matrix(d.rank(q)), d.boundary(q)))
        for x, turned_x in ahead:
            for y, turned_y in behind:
                one = product_row(c, d, p - 1, turned_x, q, y)
                two = product_row(c, d, p, x, q - 1, turned_y)
                rows.append(add(one, scaled(two, sign_of(p))))
    return rows


def product_row(c, d, p, x, q, y):
    """Return the product of a row of the degree p of c and one of the degree q of d, a row of the product."""
    row = product_of_rows(x, y)
    sizes = sizes_of_products(c, d, p + q)
    before = sum([size for k, size in zip(c.degrees(), sizes) if k < p])
    return (0,) * before + row + (0,) * (sum(sizes) - before - len(row))


def matrix_complex(c, d):
    """Return the complex of the matrices from c to d."""
    if not c.ranks or not d.ranks:
        return Complex(0, (), ())
    low, top = d.low - c.degrees()[-1], d.degrees()[-1] - c.low
    ranks = [sum(sizes_of_matrices(c, d, n)) for n in range(low, top + 1)]
    check_ranks(low, ranks)
    return Complex(low, ranks, [steps(c, d, n, -sign_of(n)) for n in range(low + 1, top + 1)])


def row_of_matrices(c, d, n, matrices):
    """Return the row of the complex of matrices, of a degree, for a matrix for each degree of c."""
    return row_of_all(matrices)


def matrices_of_row(c, d, n, row):
    """Return the matrices, one for each degree of c, of a row of the complex of matrices, of a degree."""
    return parted_by_degrees(c, d, n, row)


def cross_map(c, d, p, q):
    """Return the map that takes the product of two classes of cycles to the class of the product."""
    total = tensor_complex(c, d)
    source = tensor_group(homology(c, p), homology(d, q))
    return Map(source, homology(total, p + q), cross_rows(c, d, p, q, cycles(total, p + q)))


def cross_rows(c, d, p, q, table):
    """Return the coordinates, by the cycles of the product, of the products of the cycles of two degrees."""
    pairs = [(x, y) for x in cycles(c, p) for y in cycles(d, q)]
    return [coordinates(table, product_row(c, d, p, x, q, y)) for x, y in pairs]


def kuenneth(c, d, n):
    """Return the extension of a sum of groups Tor by one of tensor products, with the homology of the product."""
    total = tensor_complex(c, d)
    ahead = [(homology(c, p), homology(d, n - p)) for p in c.degrees()]
    behind = [(homology(c, p), homology(d, n - 1 - p)) for p in c.degrees()]
    first = sum_of_groups([tensor_group(a, b) for a, b in ahead])
    last = sum_of_groups([tor_group(a, b) for a, b in behind])
    rows, table = [], cycles(total, n)
    for p in c.degrees():
        rows = rows + cross_rows(c, d, p, n - p, table)
    inside = Map(first, homology(total, n), rows)
    # What the cross maps leave is isomorphic to the sum of the groups Tor, and each isomorphism will do.
    left, onto = quotient_of(inside.image())
    return Extension(inside, onto.then(isomorphism(left, last)))
