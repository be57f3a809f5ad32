"""Chain maps and the maps that they induce (point 7.1)."""

from tests.helper import (
    GREAT, ODD, Case, Pieced, chain_matrices, items_of, multiplied, plainly_rows, random_pieces, random_rows, seeded,
    some_chain_maps, some_pieced)
from cyclebounds.chain import ChainMap, identity_chain, zero_chain
from cyclebounds.complexes import Complex
from cyclebounds.homology import class_of, cycle_of, homology
from cyclebounds.maps import identity_map
from cyclebounds.rows import add, dot, scaled, transposed, unit_row

TWO = Complex(0, (1, 1), (((2,),),))
ZERO = Complex(0, (1, 1), (((0,),),))
ROUND = Complex(0, (1, 1, 1), (((0,),), ((2,),)))


def around(f):
    low, top = min(f.source.low, f.target.low), max(f.source.low, f.target.low)
    return range(low - 2, top + 9)


class Making(Case):
    def test_fields(self):
        d = Complex(-1, (1, 2), (((3,), (0,)),))
        f = ChainMap(ZERO, d, [[[0, 1]], ([],)])
        self.assertTrue(f.source is ZERO and f.target is d)
        self.assertEqual(f.matrices, (((0, 1),), ((),)))
        self.assertEqual(ChainMap(Complex(5, (), ()), TWO, []).matrices, ())
        self.assertEqual(ChainMap(Complex(0, (0, 0), ((),)), TWO, [(), []]).matrices, ((), ()))
        self.assertEqual(ChainMap(Complex(4, (2,), ()), TWO, [((), ())]).matrices, (((), ()),))

    def test_malformed(self):
        unit = (((1,),), ((1,),))
        for value in ODD:
            if not isinstance(value, Complex):
                self.malformed(ChainMap, value, TWO, unit)
                self.malformed(ChainMap, TWO, value, unit)
                self.malformed(ChainMap, value, value, None)
            if not (type(value) in (tuple, list) and len(value) == 2 and
                    all(plainly_rows(rows, 1) and len(rows) == 1 for rows in value)):
                self.malformed(ChainMap, TWO, TWO, value)
            if not (plainly_rows(value, 1) and len(value) == 1):
                self.malformed(ChainMap, TWO, TWO, (value, ((1,),)))
                self.malformed(ChainMap, TWO, TWO, [((1,),), value])
            if not (type(value) in (tuple, list) and not value):
                self.malformed(ChainMap, Complex(0, (), ()), TWO, value)
        self.malformed(ChainMap, TWO, TWO, (((1,),),))
        self.malformed(ChainMap, TWO, TWO, unit + ((),))
        self.malformed(ChainMap, TWO, TWO, (((1,),), ((True,),)))
        self.malformed(ChainMap, TWO, TWO, (((1,),), ((1,), (1,))))
        self.malformed(ChainMap, TWO, TWO, (((1,),), ((1, 0),)))
        self.malformed(ChainMap, TWO, Complex(1, (1,), ()), unit)

    def test_commuting_comes_last(self):
        self.refused("commute", ChainMap, TWO, TWO, (((1,),), ((2,),)))
        self.refused("commute", ChainMap, TWO, TWO, [[[1]], [[0]]])
        # The lowest degree of the source counts, too: there the image has to be a cycle.
        self.refused("commute", ChainMap, Complex(1, (1,), ()), TWO, (((1,),),))
        self.refused("commute", ChainMap, TWO, Complex(0, (1,), ()), (((1,),), ((),)))
        self.refused("commute", ChainMap, Complex(0, (1, 1), (((4,),),)), Complex(0, (1, 1), (((0,),),)), unit_matrices(2))
        self.malformed(ChainMap, TWO, TWO, (((1,),), ((2,),), ((1,),)))
        # What ends above the source is free.
        self.assertEqual(ChainMap(Complex(0, (1,), ()), TWO, (((5,),),)).value(0, (2,)), (10,))
        self.assertEqual(ChainMap(TWO, Complex(1, (1,), ()), (((),), ((3,),))).value(1, (2,)), (6,))

    def test_exactly_the_chain_maps(self):
        chance = seeded(90)
        seen = []
        for one in some_pieced(chance, 120, 3, 4, 2):
            low = one.low + chance.randint(-1, 1)
            two = Pieced(chance, low, 3, random_pieces(chance, low, 3, 4, most=2))
            c, d = one.complex, two.complex
            matrices = [list(rows) for rows in chain_matrices(chance, one, two)]
            if matrices and matrices[0] and matrices[0][0] and chance.randint(0, 1):
                matrices[0][0] = add(matrices[0][0], unit_row(len(matrices[0][0]), 0))
            fits = True
            for index, n in enumerate(c.degrees()):
                width = d.rank(n - 1)
                left = multiplied(matrices[index], d.boundary(n), width)
                right = multiplied(c.boundary(n), matrices[index - 1], width) if index else [[0] * width for _ in left]
                fits = fits and left == right
            seen.append(fits)
            if fits:
                self.assertEqual(ChainMap(c, d, matrices).matrices, tuple(tuple(rows) for rows in matrices))
            else:
                self.refused("commute", ChainMap, c, d, matrices)
        self.assertGreater(seen.count(False), 5)
        self.assertGreater(seen.count(True), 20)

    def test_lists_of_the_caller_are_not_kept(self):
        matrices = [[[1]], [[1]]]
        f = ChainMap(TWO, TWO, matrices)
        matrices[0][0][0] = 9
        matrices.append([])
        self.assertEqual(f, identity_chain(TWO))

    def test_equality(self):
        f = identity_chain(TWO)
        self.assertTrue(f == ChainMap(TWO, Complex(0, [1, 1], [[[2]]]), [[[1]], [[1]]]))
        for other in (f.scaled(2), zero_chain(TWO, TWO), zero_chain(Complex(0, (), ()), TWO), identity_chain(ROUND),
                      ChainMap(TWO, Complex(0, (1, 1), (((1,),),)), (((1,),), ((2,),)))):
            self.assertFalse(f == other)
            self.assertTrue(f != other)
        self.assertFalse(zero_chain(TWO, Complex(5, (), ())) == zero_chain(TWO, Complex(6, (), ())))
        self.assertFalse(zero_chain(TWO, TWO) == zero_chain(ZERO, TWO))
        self.assertFalse(zero_chain(TWO, TWO) == zero_chain(TWO, ZERO))
        for value in ODD:
            self.assertIs(f == value, False)


def unit_matrices(count):
    return (((1,),),) * count


class Values(Case):
    def test_matrices_in_all_degrees(self):
        f = ChainMap(ZERO, Complex(-1, (1, 2), (((3,), (0,)),)), [[[0, 1]], ([],)])
        self.assertEqual([f.matrix(n) for n in range(-3, 5)], [(), (), (), ((0, 1),), ((),), (), (), ()])
        for n in (GREAT, -GREAT):
            self.assertEqual((f.matrix(n), f.value(n, ())), ((), ()))
        self.assertEqual(f.value(0, (5,)), (0, 5))
        self.assertEqual(f.value(1, (5,)), ())
        self.assertEqual(f.value(-1, ()), (0,))

    def test_shapes_and_values(self):
        chance = seeded(91)
        for f in some_chain_maps(chance, 80):
            for n in around(f):
                rows = f.matrix(n)
                self.assertEqual((type(rows), len(rows)), (tuple, f.source.rank(n)))
                self.assertTrue(all(len(row) == f.target.rank(n) for row in rows))
                for x in random_rows(chance, 2, f.source.rank(n), 9):
                    value = f.value(n, x)
                    self.assertEqual(value, tuple(dot(x, column) for column in transposed(rows, f.target.rank(n))))
                    self.assertEqual(f.target.turned(n, value), f.value(n - 1, f.source.turned(n, x)))

    def test_some_are_not_0(self):
        found = list(some_chain_maps(seeded(91), 80, 0))
        self.assertGreater(len([f for f in found if any(items_of(f))]), 20)


class Sums(Case):
    def test_sums_and_multiples(self):
        chance = seeded(92)
        for one in some_pieced(chance, 60):
            two = Pieced(chance, one.low, 4, random_pieces(chance, one.low, 4, 6, most=4))
            f, g = (ChainMap(one.complex, two.complex, chain_matrices(chance, one, two)) for _ in range(2))
            for n in around(f):
                for x in random_rows(chance, 1, f.source.rank(n), 5):
                    self.assertEqual((f + g).value(n, x), add(f.value(n, x), g.value(n, x)))
                    self.assertEqual((f - g).value(n, x), add(f.value(n, x), scaled(g.value(n, x), -1)))
                    self.assertEqual((-f).value(n, x), scaled(f.value(n, x), -1))
                    self.assertEqual(f.scaled(7).value(n, x), scaled(f.value(n, x), 7))
            self.assertEqual(f + g - g, f)
            self.assertEqual(f.scaled(0), zero_chain(f.source, f.target))
            self.assertEqual(f.scaled(-1), -f)
            for h in (f + g, f - g, -f, f.scaled(3)):
                self.assertEqual((h.source, h.target), (f.source, f.target))

    def test_one_behind_the_other(self):
        chance = seeded(93)
        for one in some_pieced(chance, 60):
            two, three = (Pieced(chance, low, 4, random_pieces(chance, low, 4, 6, most=4)) for low in (one.low, 0))
            f = ChainMap(one.complex, two.complex, chain_matrices(chance, one, two))
            g = ChainMap(two.complex, three.complex, chain_matrices(chance, two, three))
            h = f.then(g)
            self.assertEqual((h.source, h.target), (one.complex, three.complex))
            for n in around(f):
                for x in random_rows(chance, 1, f.source.rank(n), 5):
                    self.assertEqual(h.value(n, x), g.value(n, f.value(n, x)))
            self.assertEqual(identity_chain(f.source).then(f), f)
            self.assertEqual(f.then(identity_chain(f.target)), f)
            self.assertEqual(f.then(zero_chain(f.target, TWO)), zero_chain(f.source, TWO))

    def test_identity_and_zero(self):
        self.assertEqual(identity_chain(ROUND).matrices, unit_matrices(3))
        self.assertEqual(identity_chain(Complex(0, (2, 0), ((),))).matrices, (((1, 0), (0, 1)), ()))
        self.assertEqual(identity_chain(Complex(3, (), ())).matrices, ())
        self.assertEqual(zero_chain(TWO, Complex(1, (2,), ())).matrices, (((),), ((0, 0),)))
        self.assertEqual(zero_chain(Complex(3, (), ()), TWO).matrices, ())
        self.assertEqual(zero_chain(TWO, Complex(3, (), ())).matrices, (((),), ((),)))

    def test_malformed(self):
        f = identity_chain(TWO)
        others = (identity_chain(ROUND), zero_chain(TWO, ROUND), zero_chain(ROUND, TWO))
        for g in others:
            for call in (lambda x, y: x + y, lambda x, y: x - y):
                self.malformed(call, f, g)
                self.malformed(call, g, f)
        self.malformed(f.then, others[0])
        self.malformed(f.then, others[2])
        self.malformed(others[1].then, f)
        self.assertEqual(f.then(others[1]), others[1])
        # Equal sources and targets are asked for, degrees and ranks alike are not enough.
        other = Complex(0, (1, 1), (((3,),),))
        self.malformed(f.then, identity_chain(other))
        self.malformed(lambda: f + zero_chain(TWO, other))
        self.malformed(lambda: f + zero_chain(other, TWO))


class Induced(Case):
    def test_classes_of_values(self):
        chance = seeded(94)
        for f in some_chain_maps(chance, 120):
            for n in around(f):
                found = f.induced(n)
                self.assertEqual((found.source, found.target), (homology(f.source, n), homology(f.target, n)))
                for x in random_rows(chance, 2, found.source.n, 5):
                    z = cycle_of(f.source, n, x)
                    self.assertEqual(found.value(x), class_of(f.target, n, f.value(n, z)))

    def test_identities_and_products(self):
        for f in some_chain_maps(seeded(95), 40):
            for n in around(f):
                self.assertTrue(identity_chain(f.source).induced(n) == identity_map(homology(f.source, n)))
                self.assertTrue((f + f).induced(n) == f.induced(n).scaled(2))
                if f.source == f.target:
                    self.assertTrue(f.then(f).induced(n) == f.induced(n).then(f.induced(n)))

    def test_by_hand(self):
        f = ChainMap(ROUND, ROUND, (((3,),), ((5,),), ((5,),)))
        self.assertEqual([f.induced(n).matrix for n in (-1, 0, 1, 2, 3)], [(), ((3,),), ((5,),), (), ()])
        self.assertEqual(f.induced(1).value((1,)), (1,))
        self.assertEqual(f.induced(GREAT).matrix, ())
