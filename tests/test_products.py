"""Products of complexes, complexes of matrices, cross maps and the row of Kuenneth (points 9.1 to 9.4)."""

import math

from tests.helper import (
    Case, Pieced, chained_pieces, pieced, random_pieces, random_rows, seeded, some_chain_maps, some_pieced)
from cyclebounds.build import into_sum, sum_of_groups
from cyclebounds.chain import ChainMap
from cyclebounds.classes import maps_group
from cyclebounds.complexes import Complex, dual, moved_by
from cyclebounds.errors import Refused
from cyclebounds.exact import is_exact
from cyclebounds.extension import Extension, section
from cyclebounds.group import are_isomorphic
from cyclebounds.homology import boundaries, class_of, cycle_of, cycles, homology, is_cycle
from cyclebounds.homotopy import homotopy
from cyclebounds.maps import identity_map
from cyclebounds.products import (
    cross_map, kuenneth, matrices_of_row, matrix_complex, product_row, row_of_matrices, tensor_complex)
from cyclebounds.rows import add, holds, scaled, times, unit_row
from cyclebounds.standard import lasting, pieces, same_homology
from cyclebounds.tensor import tensor_group, tensor_of, tor_group

LINE = Complex(0, (1,), ())
TWO = Complex(0, (1, 1), (((2,),),))
NOTHING = Complex(7, (), ())


def zeros(low, ranks):
    return Complex(low, ranks, [[[0] * width for _ in range(size)] for width, size in zip(ranks, ranks[1:])])


def top(c):
    return c.low + len(c.ranks) - 1


def rank_of_product(c, d, n):
    return sum(c.rank(p) * d.rank(n - p) for p in c.degrees())


def some_pairs(number, count, degrees=4, many=4, most=2):
    found = list(some_pieced(seeded(number), count + 1, degrees, many, most))
    return [(one.complex, two.complex) for one, two in zip(found, found[1:])]


def fits(c, d):
    try:
        tensor_complex(c, d)
    except Refused:
        return False
    return True


class Products(Case):
    def test_by_hand(self):
        self.assertEqual(tensor_complex(TWO, TWO), Complex(0, (1, 2, 1), (((2,), (2,)), ((2, -2),))))
        three = Complex(-1, (1, 1), (((3,),),))
        self.assertEqual(tensor_complex(TWO, three), Complex(-1, (1, 2, 1), (((3,), (2,)), ((2, -3),))))
        self.assertEqual(tensor_complex(three, TWO), Complex(-1, (1, 2, 1), (((-2,), (3,)), ((3, 2),))))
        self.assertEqual(tensor_complex(LINE, three), three)
        self.assertEqual(tensor_complex(three, LINE), three)
        # The signs are those of the degrees, not of the places.
        self.assertEqual(tensor_complex(Complex(1, (1,), ()), TWO), Complex(1, (1, 1), (((-2,),),)))
        self.assertEqual(tensor_complex(TWO, Complex(1, (1,), ())), moved_by(Complex(0, (1, 1), (((-2,),),)), 1))

    def test_order_of_the_basis(self):
        c = zeros(-1, (2, 1))
        d = zeros(3, (3, 2))
        self.assertEqual(tensor_complex(c, d).ranks, (6, 7, 2))
        self.assertEqual(product_row(c, d, -1, (1, 10), 3, (1, 2, 3)), (1, 2, 3, 10, 20, 30))
        self.assertEqual(product_row(c, d, -1, (1, 10), 4, (4, 5)), (4, 5, 40, 50, 0, 0, 0))
        self.assertEqual(product_row(c, d, 0, (2,), 3, (1, 2, 3)), (0, 0, 0, 0, 2, 4, 6))
        self.assertEqual(product_row(c, d, 0, (2,), 4, (5, -6)), (10, -12))

    def test_boundaries(self):
        chance = seeded(130)
        many = 0
        for c, d in some_pairs(131, 150):
            if not fits(c, d):
                continue
            many += 1
            total = tensor_complex(c, d)
            self.assertEqual(total.low, c.low + d.low)
            for p in range(c.low - 1, top(c) + 2):
                for q in range(d.low - 1, top(d) + 2):
                    x, y = random_rows(chance, 1, c.rank(p), 4)[0], random_rows(chance, 1, d.rank(q), 4)[0]
                    row = product_row(c, d, p, x, q, y)
                    self.assertTrue(total.is_row(p + q, row))
                    one = product_row(c, d, p - 1, c.turned(p, x), q, y)
                    two = product_row(c, d, p, x, q - 1, d.turned(q, y))
                    self.assertEqual(total.turned(p + q, row), add(one, scaled(two, -1 if p % 2 else 1)))
        self.assertGreater(many, 80)

    def test_degrees_and_ranks(self):
        for c, d in some_pairs(132, 80):
            if fits(c, d):
                total = tensor_complex(c, d)
                if c.ranks and d.ranks:
                    self.assertEqual(total.degrees(), tuple(range(c.low + d.low, top(c) + top(d) + 1)))
                for n in range(total.low - 2, top(total) + 3):
                    self.assertEqual(total.rank(n), rank_of_product(c, d, n))

    def test_all_items(self):
        """Each item of a boundary, worked out from the order of the basis."""
        for c, d in some_pairs(133, 60):
            if not fits(c, d):
                continue
            total = tensor_complex(c, d)
            for n in total.degrees():
                above, below = basis(c, d, n), basis(c, d, n - 1)
                for place, (p, i, j) in enumerate(above):
                    for at, (k, r, s) in enumerate(below):
                        item = c.boundary(p)[i][r] if (k, s) == (p - 1, j) else 0
                        if (k, r) == (p, i):
                            item = (-1 if p % 2 else 1) * d.boundary(n - p)[j][s]
                        self.assertEqual(total.boundary(n)[place][at], item)

    def test_without_ranks(self):
        self.assertEqual(tensor_complex(NOTHING, TWO), NOTHING)
        self.assertEqual(tensor_complex(TWO, Complex(-3, (), ())), Complex(-3, (), ()))
        self.assertEqual(tensor_complex(NOTHING, Complex(-3, (), ())), Complex(4, (), ()))
        self.refused("large", tensor_complex, NOTHING, Complex(14, (), ()))
        self.assertEqual(tensor_complex(NOTHING, Complex(13, (), ())), Complex(20, (), ()))
        self.assertEqual(tensor_complex(zeros(0, (0, 0)), zeros(1, (0, 3))), zeros(1, (0, 0, 0)))

    def test_eight_and_nine_degrees(self):
        for left in range(1, 9):
            c, d = zeros(0, (1,) * left), zeros(2, (1,) * (9 - left))
            self.assertEqual(len(tensor_complex(c, d).ranks), 8)
            if left > 1:
                more = zeros(2, (1,) * (10 - left))
                self.refused("large", tensor_complex, c, more)
                self.refused("large", tensor_complex, more, c)

    def test_ranks_of_twelve_and_thirteen(self):
        self.assertEqual(tensor_complex(zeros(0, (3,)), zeros(0, (4,))).ranks, (12,))
        self.refused("large", tensor_complex, zeros(0, (12,)), zeros(0, (2,)))
        self.assertEqual(tensor_complex(zeros(0, (2, 2)), zeros(0, (3, 3))).ranks, (6, 12, 6))
        self.refused("large", tensor_complex, zeros(0, (1, 2, 1)), zeros(0, (3, 5, 3)))
        self.assertEqual(tensor_complex(zeros(0, (1, 1)), zeros(0, (6, 6, 6))).ranks, (6, 12, 12, 6))
        self.refused("large", tensor_complex, zeros(0, (1, 1)), zeros(0, (6, 7)))
        full = zeros(0, (12,) * 8)
        self.refused("large", tensor_complex, full, full)
        self.refused("large", matrix_complex, full, full)

    def test_lowest_degrees(self):
        for low, other in ((10, 10), (-10, -10), (20, 0), (-20, 0), (20, -20)):
            self.assertEqual(tensor_complex(zeros(low, (1, 1)), zeros(other, (1,))).low, low + other)
        for low, other in ((10, 11), (-11, -10), (20, 1)):
            self.refused("large", tensor_complex, zeros(low, (1, 1)), zeros(other, (1,)))

    def test_rows_where_the_product_is_refused(self):
        full = zeros(18, (12,) * 8)
        x, y = unit_row(12, 3), unit_row(12, 5)
        row = product_row(full, full, 20, x, 19, y)
        self.assertEqual(len(row), 4 * 144)
        self.assertEqual([at for at, item in enumerate(row) if item], [2 * 144 + 3 * 12 + 5])
        self.assertEqual(product_row(full, full, 0, (), 19, y), (0,) * rank_of_product(full, full, 19))
        self.assertEqual(product_row(full, full, 18, x, 0, ()), (0,) * rank_of_product(full, full, 18))
        self.assertEqual(product_row(NOTHING, full, 3, (), 19, y), ())


def basis(c, d, n):
    """The triples (p, i, j) of the basis of the product, in their order."""
    return [(p, i, j) for p in c.degrees() for i in range(c.rank(p)) for j in range(d.rank(n - p))]


class Matrices(Case):
    def test_boundaries(self):
        chance = seeded(134)
        many = 0
        for c, d in some_pairs(135, 200, 3, 3):
            try:
                total = matrix_complex(c, d)
            except Refused:
                continue
            many += 1
            for n in range(total.low - 1, top(total) + 2):
                matrices = tuple(random_rows(chance, c.rank(p), d.rank(p + n), 3) for p in c.degrees())
                row = row_of_matrices(c, d, n, matrices)
                self.assertEqual(row, tuple(item for rows in matrices for line in rows for item in line))
                if not c.ranks or not d.ranks:
                    self.assertEqual(row, ())
                    continue
                self.assertTrue(total.is_row(n, row))
                self.assertEqual(matrices_of_row(c, d, n, row), matrices)
                sign = -1 if n % 2 == 0 else 1
                turned = []
                for index, p in enumerate(c.degrees()):
                    width = d.rank(p + n - 1)
                    ahead = times(matrices[index], d.boundary(p + n), width)
                    behind = times(c.boundary(p), matrices[index - 1] if index else (), width)
                    turned.append(tuple(add(v, scaled(w, sign)) for v, w in zip(ahead, behind)))
                self.assertEqual(matrices_of_row(c, d, n - 1, total.turned(n, row)), tuple(turned))
        self.assertGreater(many, 100)

    def test_cycles_are_chain_maps(self):
        many = 0
        for f in some_chain_maps(seeded(136), 120):
            try:
                total = matrix_complex(f.source, f.target)
            except Refused:
                continue
            many += 1
            if not f.source.ranks or not f.target.ranks:
                continue
            row = row_of_matrices(f.source, f.target, 0, f.matrices)
            self.assertTrue(is_cycle(total, 0, row))
            self.assertEqual(holds(boundaries(total, 0), row), homotopy(f, f.scaled(0)) is not None)
            for z in cycles(total, 0):
                self.assertIsNotNone(ChainMap(f.source, f.target, matrices_of_row(f.source, f.target, 0, z)))
        self.assertGreater(many, 50)

    def test_homology_is_the_group_of_chain_maps(self):
        many = 0
        for c, d in some_pairs(137, 150, 3, 3):
            try:
                total = matrix_complex(c, d)
            except Refused:
                continue
            many += 1
            for n in range(total.low - 1, top(total) + 2):
                self.assertTrue(are_isomorphic(homology(total, n), maps_group(moved_by(c, n), d)[0]))
        self.assertGreater(many, 50)

    def test_by_hand(self):
        self.assertEqual(matrix_complex(TWO, TWO), Complex(-1, (1, 2, 1), (((-2,), (2,)), ((2, 2),))))
        self.assertEqual(matrix_complex(LINE, TWO), TWO)
        self.assertEqual(matrix_complex(TWO, LINE), Complex(-1, (1, 1), (((-2,),),)))
        self.assertEqual(matrix_complex(zeros(1, (2,)), zeros(-3, (3,))), zeros(-4, (6,)))
        self.assertTrue(same_homology(matrix_complex(TWO, LINE), dual(TWO)))
        self.assertEqual(row_of_matrices(TWO, TWO, 0, (((5,),), ((6,),))), (5, 6))
        self.assertEqual(matrices_of_row(TWO, TWO, -1, (7,)), (((),), ((7,),)))
        self.assertEqual(matrices_of_row(TWO, TWO, 1, (7,)), (((7,),), ((),)))
        self.assertEqual(matrices_of_row(TWO, TWO, 9, ()), (((),), ((),)))

    def test_without_ranks(self):
        for c, d in ((NOTHING, TWO), (TWO, NOTHING), (NOTHING, Complex(-3, (), ())), (Complex(20, (), ()), TWO),
                     (TWO, Complex(-20, (), ()))):
            self.assertEqual(matrix_complex(c, d), Complex(0, (), ()))
            self.assertEqual(row_of_matrices(c, d, 0, tuple(() for _ in c.ranks)), ())
            self.assertEqual(matrices_of_row(c, d, 0, ()), tuple(((),) * rank for rank in c.ranks))

    def test_refused(self):
        for left in range(1, 9):
            c, d = zeros(0, (1,) * left), zeros(2, (1,) * (9 - left))
            self.assertEqual(matrix_complex(c, d).degrees(), tuple(range(2 - top(c), top(d) + 1)))
            if left > 1:
                self.refused("large", matrix_complex, c, zeros(2, (1,) * (10 - left)))
        self.assertEqual(matrix_complex(zeros(0, (3,)), zeros(0, (4,))).ranks, (12,))
        self.refused("large", matrix_complex, zeros(0, (1, 2)), zeros(0, (3, 5)))
        self.assertEqual(matrix_complex(zeros(0, (1, 2)), zeros(0, (2, 5))).ranks, (4, 12, 5))
        self.assertEqual(matrix_complex(zeros(-10, (1,)), zeros(10, (1,))).low, 20)
        self.refused("large", matrix_complex, zeros(-10, (1,)), zeros(11, (1,)))
        self.refused("large", matrix_complex, zeros(10, (1, 1)), zeros(-10, (1,)))
        self.assertEqual(matrix_complex(zeros(9, (1, 1)), zeros(-10, (1,))).low, -20)

    def test_rows_where_the_complex_is_refused(self):
        full = zeros(20, (12,) * 8)
        matrices = tuple(random_rows(seeded(138), 12, full.rank(p + 2), 9) for p in full.degrees())
        row = row_of_matrices(full, full, 2, matrices)
        self.assertEqual(len(row), 6 * 144)
        self.assertEqual(matrices_of_row(full, full, 2, row), matrices)


class Cross(Case):
    def test_products_of_cycles(self):
        chance = seeded(139)
        many = 0
        for c, d in some_pairs(140, 120):
            if not fits(c, d):
                continue
            total = tensor_complex(c, d)
            for p in range(c.low - 1, top(c) + 2):
                for q in range(d.low - 1, top(d) + 2):
                    f = cross_map(c, d, p, q)
                    one, two = homology(c, p), homology(d, q)
                    self.assertEqual((f.source, f.target), (tensor_group(one, two), homology(total, p + q)))
                    x, y = random_rows(chance, 1, one.n, 3)[0], random_rows(chance, 1, two.n, 3)[0]
                    z = add(cycle_of(c, p, x), c.turned(p + 1, random_rows(chance, 1, c.rank(p + 1), 3)[0]))
                    w = add(cycle_of(d, q, y), d.turned(q + 1, random_rows(chance, 1, d.rank(q + 1), 3)[0]))
                    row = product_row(c, d, p, z, q, w)
                    self.assertEqual(f.value(tensor_of(one, two, x, y)), class_of(total, p + q, row))
                    many += f.source.n > 0
        self.assertGreater(many, 50)

    def test_refused(self):
        wide, other = zeros(0, (7,)), zeros(0, (6,))
        for call in (cross_map, lambda c, d, p, q: kuenneth(c, d, p + q)):
            self.refused("large", call, wide, other, 0, 0)
            self.refused("large", call, wide, other, 5, 0)
            self.refused("large", call, zeros(11, (1,)), zeros(10, (1,)), 0, 0)
            self.assertIsNotNone(call(zeros(0, (3,)), zeros(0, (4,)), 0, 0))
            self.assertIsNotNone(call(zeros(0, (3,)), zeros(0, (4,)), 10 ** 30, -1))
            self.assertIsNotNone(call(NOTHING, wide, 0, 0))
            self.assertIsNotNone(call(wide, NOTHING, 0, 0))


class Kuenneth(Case):
    def check_row(self, c, d, n):
        total = tensor_complex(c, d)
        x = kuenneth(c, d, n)
        self.assertIsInstance(x, Extension)
        groups = [tensor_group(homology(c, p), homology(d, n - p)) for p in c.degrees()]
        others = [tor_group(homology(c, p), homology(d, n - 1 - p)) for p in c.degrees()]
        self.assertEqual(x.first(), sum_of_groups(groups))
        self.assertEqual(x.middle(), homology(total, n))
        self.assertEqual(x.last(), sum_of_groups(others))
        for at, p in enumerate(c.degrees()):
            self.assertEqual(into_sum(groups, at).then(x.i), cross_map(c, d, p, n - p))
        self.assertTrue(x.i.is_one_to_one() and x.p.is_onto() and is_exact(x.i, x.p))
        self.assertEqual(section(x).then(x.p), identity_map(x.last()))

    def test_rows(self):
        many = 0
        for c, d in some_pairs(141, 150, 4, 5, 3):
            if not fits(c, d):
                continue
            many += 1
            for n in range(c.low + d.low - 1, top(c) + top(d) + 3):
                self.check_row(c, d, n)
        self.assertGreater(many, 60)

    def test_pieces(self):
        for s in (0, 1, 2, 4, 6):
            for t in (0, 1, 3, 4, 6):
                one = pieced(seeded(s), 0, 2, [(0, s)])
                two = pieced(seeded(t), -1, 2, [(-1, t)])
                for n in range(-3, 4):
                    self.check_row(one, two, n)
        x = kuenneth(Complex(0, (1, 1), (((4,),),)), Complex(0, (1, 1), (((6,),),)), 1)
        self.assertEqual((x.first().order(), x.last().order()), (1, 2))
        self.assertEqual(x.p.value((1,)), (1,))

    def test_known_pieces(self):
        """The pieces of a product of sums of pieces, told by those of two pieces."""
        chance = seeded(142)
        for _ in range(20):
            low, other = chance.randint(-2, 2), chance.randint(-2, 2)
            first = random_pieces(chance, low, 3, 4, (0, 1, 2, 4, 6), 2)
            second = random_pieces(chance, other, 3, 3, (0, 1, 2, 3, 6), 2)
            c, d = Pieced(chance, low, 3, first).complex, Pieced(chance, other, 3, second).complex
            expected = [piece for one in first for two in second for piece in product_of_pieces(one, two)]
            self.assertEqual(lasting(pieces(tensor_complex(c, d))), lasting(chained_pieces(expected)))
            for n in range(low + other - 1, low + other + 6):
                self.check_row(c, d, n)

    def test_large_products(self):
        chance = seeded(143)
        c = Pieced(chance, -10, 4, random_pieces(chance, -10, 4, 6, (0, 2, 4), 2), 10).complex
        d = Pieced(chance, 20, 5, random_pieces(chance, 20, 5, 4, (0, 6, 12), 1), 10).complex
        self.assertEqual(len(tensor_complex(c, d).ranks), 8)
        for n in range(9, 20):
            self.check_row(c, d, n)

    def test_without_ranks_and_far_degrees(self):
        for c, d in ((NOTHING, TWO), (TWO, NOTHING), (NOTHING, NOTHING), (TWO, TWO)):
            for n in (-10 ** 30, -1, 0, 1, 7, 10 ** 30):
                self.check_row(c, d, n)


def product_of_pieces(one, two):
    """The pieces of the product of two pieces, but for those (n, 1)."""
    (n, s), (m, t) = one, two
    if s == 0:
        return [(n + m, t)]
    if t == 0:
        return [(n + m, s)]
    return [(n + m, math.gcd(s, t)), (n + m + 1, math.gcd(s, t))]
