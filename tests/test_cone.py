"""Cones and equivalences (points 7.5 to 7.7)."""

from tests.helper import (
    GREAT, Case, Pieced, bounding_matrices, chain_matrices, random_pieces, random_rows, seeded, some_chain_maps, some_pieced)
from tests.test_homotopy import shows_homotopic
from cyclebounds.chain import ChainMap, identity_chain, zero_chain
from cyclebounds.complexes import Complex, moved_by, sum_of_complexes
from cyclebounds.cone import cone, equivalence, equivalence_of, into_cone, is_equivalence, out_of_cone
from cyclebounds.homology import homology
from cyclebounds.rows import add, scaled
from cyclebounds.standard import same_homology

TWO = Complex(0, (1, 1), (((2,),),))
ONE = Complex(0, (1, 1), (((1,),),))
NOTHING = Complex(7, (), ())


def zeros(low, ranks):
    return Complex(low, ranks, [[[0] * width for _ in range(size)] for width, size in zip(ranks, ranks[1:])])


def has_no_homology(c):
    return all(homology(c, n).order() == 1 for n in c.degrees())


class Cones(Case):
    def test_by_hand(self):
        self.assertEqual(cone(identity_chain(TWO)), Complex(0, (1, 2, 1), (((1,), (2,)), ((-2, 1),))))
        self.assertEqual(cone(identity_chain(TWO).scaled(3)), Complex(0, (1, 2, 1), (((3,), (2,)), ((-2, 3),))))
        self.assertEqual(cone(zero_chain(TWO, Complex(-1, (1,), ()))),
                         Complex(-1, (1, 0, 1, 1), ((), ((),), ((-2,),))))
        self.assertEqual(cone(zero_chain(NOTHING, TWO)), TWO)
        self.assertEqual(cone(zero_chain(TWO, NOTHING)), moved_by(TWO, 1))
        self.assertEqual(cone(zero_chain(Complex(1, (), ()), NOTHING)), NOTHING)
        self.assertEqual(cone(zero_chain(NOTHING, Complex(1, (), ()))), Complex(1, (), ()))

    def test_boundaries_and_maps(self):
        chance = seeded(110)
        many = 0
        for f in some_chain_maps(chance, 120):
            c, d = f.source, f.target
            if max(cone_ranks(f)) > 12 or abs(c.low - d.low) > 2:
                continue
            many += 1
            plain = sum_of_complexes(moved_by(c, 1), d)
            made, into, out = cone(f), into_cone(f), out_of_cone(f)
            self.assertEqual((made.low, made.ranks), (plain.low, plain.ranks))
            self.assertEqual((into.source, into.target), (d, made))
            self.assertEqual((out.source, out.target), (made, moved_by(c, 1)))
            self.assertEqual(into.then(out), zero_chain(d, moved_by(c, 1)))
            for n in range(made.low - 2, made.low + len(made.ranks) + 2):
                for x, y in zip(random_rows(chance, 2, c.rank(n - 1), 5), random_rows(chance, 2, d.rank(n), 5)):
                    ahead = scaled(c.turned(n - 1, x), -1)
                    behind = add(f.value(n - 1, x), d.turned(n, y))
                    self.assertEqual(made.turned(n, x + y), ahead + behind)
                    self.assertEqual(into.value(n, y), (0,) * len(x) + y)
                    self.assertEqual(out.value(n, x + y), x)
        self.assertGreater(many, 60)

    def test_eight_and_nine_degrees(self):
        for call in (cone, into_cone, out_of_cone):
            c, d = zeros(0, (1,) * 7), zeros(0, (1,) * 8)
            self.assertIsNotNone(call(zero_chain(c, d)))
            self.assertIsNotNone(call(zero_chain(c, c)))
            self.refused("large", call, zero_chain(d, d))
            self.refused("large", call, zero_chain(d, c))
            self.refused("large", call, zero_chain(Complex(8, (1,), ()), c))
            self.refused("large", call, zero_chain(Complex(7, (1,), ()), c))
            self.assertIsNotNone(call(zero_chain(Complex(6, (1,), ()), c)))
            self.assertIsNotNone(call(zero_chain(d, NOTHING)))
        self.assertEqual(len(cone(zero_chain(zeros(0, (1,) * 7), zeros(0, (1,) * 8))).ranks), 8)

    def test_ranks_of_twelve_and_thirteen(self):
        for call in (cone, into_cone, out_of_cone):
            self.assertIsNotNone(call(zero_chain(Complex(0, (5,), ()), Complex(1, (7,), ()))))
            self.refused("large", call, zero_chain(Complex(0, (6,), ()), Complex(1, (7,), ())))
            self.assertIsNotNone(call(zero_chain(Complex(0, (12,), ()), Complex(0, (12,), ()))))

    def test_highest_degrees(self):
        top = Complex(20, (1,), ())
        for call in (cone, into_cone, out_of_cone):
            self.refused("large", call, zero_chain(top, NOTHING))
            self.refused("large", call, zero_chain(top, Complex(-20, (1,), ())))
        for f in (identity_chain(top), zero_chain(top, Complex(18, (2,), ())), zero_chain(Complex(20, (), ()), top),
                  zero_chain(Complex(20, (), ()), NOTHING)):
            # The cone has a lowest degree up to 20, the source moved by 1 has not.
            self.assertLessEqual(cone(f).low, 20)
            self.assertEqual(into_cone(f).source, f.target)
            self.refused("large", out_of_cone, f)
        self.assertEqual(cone(identity_chain(top)), Complex(20, (1, 1), (((1,),),)))
        self.assertEqual(cone(zero_chain(Complex(20, (), ()), top)), top)
        self.assertEqual(out_of_cone(zero_chain(Complex(19, (1,), ()), NOTHING)).target.low, 20)


class Equivalences(Case):
    def check_back(self, f):
        """What equivalence_of tells, by the words of point 7.6; the answer is whether f is an equivalence."""
        found = equivalence_of(f)
        self.assertEqual(is_equivalence(f), found is not None)
        if found is not None:
            self.assertIs(type(found), tuple)
            g, s, t = found
            self.check_pair(f, g, s, t)
        return found is not None

    def check_pair(self, f, g, s, t):
        self.assertEqual((g.source, g.target), (f.target, f.source))
        self.assertTrue(shows_homotopic(f.then(g), identity_chain(f.source), s))
        self.assertTrue(shows_homotopic(g.then(f), identity_chain(f.target), t))

    def test_exactly_those_that_induce_inverses(self):
        seen = []
        for one in some_pieced(seeded(111), 200, 3, 3, 3):
            f = ChainMap(one.complex, one.complex, chain_matrices(seeded(len(seen)), one, one))
            expected = all(f.induced(n).is_one_to_one() and f.induced(n).is_onto() for n in range(-6, 8))
            self.assertIs(is_equivalence(f), expected)
            self.assertEqual(self.check_back(f), expected)
            if max(cone_ranks(f)) <= 12:
                self.assertEqual(has_no_homology(cone(f)), expected)
            seen.append(expected)
        self.assertGreater(seen.count(True), 30)
        self.assertGreater(seen.count(False), 30)

    def test_between_unlike_complexes(self):
        chance = seeded(112)
        seen = []
        for f in some_chain_maps(chance, 100):
            seen.append(self.check_back(f))
        for _ in range(60):
            lasting = random_pieces(chance, 0, 3, 4, (0, 2, 3, 4), 3)
            one = Pieced(chance, 0, 4, lasting + random_pieces(chance, 0, 4, 3, (1,), 2))
            two = Pieced(chance, -1, 5, lasting + random_pieces(chance, -1, 4, 3, (1,), 2))
            h = equivalence(one.complex, two.complex)[0]
            for _ in range(3):
                f = ChainMap(one.complex, two.complex, chain_matrices(chance, one, two))
                seen.append(self.check_back(f))
                seen.append(self.check_back(h + f))
                # What is homotopic to an equivalence is one.
                _, around = bounding_matrices(chance, h.source, h.target, 2)
                self.assertTrue(self.check_back(h + ChainMap(h.source, h.target, around)))
        self.assertGreater(seen.count(True), 5)

    def test_maps_that_induce_the_identity(self):
        # The identity and a map that induces 0 and is not homotopic to 0: a round of 4 in two neighbouring degrees.
        c = Complex(0, (1, 2, 1), (((4,), (0,)), ((0, 4),)))
        ghost = ChainMap(c, c, (((0,),), ((0, 1), (0, 0)), ((0,),)))
        self.assertTrue(all(ghost.induced(n).is_zero() for n in range(4)))
        for k in range(-3, 6):
            f = identity_chain(c) + ghost.scaled(k)
            self.assertTrue(self.check_back(f))
            self.assertTrue(self.check_back(f.scaled(3)))
            self.assertFalse(self.check_back(f.scaled(2)))

    def test_by_hand(self):
        self.assertTrue(self.check_back(zero_chain(ONE, NOTHING)))
        self.assertTrue(self.check_back(zero_chain(NOTHING, ONE)))
        self.assertTrue(self.check_back(zero_chain(ONE, ONE)))
        self.assertTrue(self.check_back(zero_chain(NOTHING, Complex(-9, (), ()))))
        self.assertFalse(self.check_back(zero_chain(TWO, TWO)))
        self.assertFalse(self.check_back(zero_chain(NOTHING, TWO)))
        self.assertFalse(self.check_back(zero_chain(TWO, NOTHING)))
        self.assertTrue(self.check_back(identity_chain(TWO).scaled(GREAT)))
        self.assertFalse(self.check_back(identity_chain(TWO).scaled(GREAT + 1)))
        line = Complex(0, (1,), ())
        self.assertTrue(self.check_back(-identity_chain(line)))
        self.assertFalse(self.check_back(identity_chain(line).scaled(2)))
        # Onto on homology, but not one to one; one to one, but not onto.
        self.assertFalse(self.check_back(ChainMap(line, TWO, (((1,),),))))
        self.assertFalse(self.check_back(ChainMap(line, Complex(0, (2,), ()), (((1, 0),),))))

    def test_where_the_cone_would_be_refused(self):
        chance = seeded(113)
        for low, count, sizes in ((0, 8, (0, 1, 2, 4)), (20, 8, (1, 3)), (-20, 8, (0, 5))):
            one = Pieced(chance, low, count, random_pieces(chance, low, count, 150, sizes), 10)
            f = identity_chain(one.complex)
            self.refused("large", cone, f)
            self.assertTrue(self.check_back(f))
            self.assertTrue(self.check_back(-f))
            g = ChainMap(one.complex, one.complex, chain_matrices(chance, one, one))
            self.check_back(g)
            self.assertTrue(self.check_back(f + g.scaled(60) if 0 not in sizes else f))
        far = zero_chain(Complex(-20, (1, 1), (((1,),),)), Complex(20, (1, 1), (((-1,),),)))
        self.refused("large", cone, far)
        self.assertTrue(self.check_back(far))
        self.assertFalse(self.check_back(zero_chain(Complex(-20, (1,), ()), Complex(20, (1,), ()))))

    def test_equivalence(self):
        chance = seeded(114)
        seen = []
        for _ in range(120):
            low = chance.randint(-2, 1)
            one = random_pieces(chance, low, 4, chance.randint(0, 5), (0, 1, 2, 3, 6), 4)
            two = one if chance.randint(0, 1) else random_pieces(chance, low, 4, chance.randint(0, 5), (0, 1, 2, 3), 4)
            extra = [(low - 1, 1)] * chance.randint(0, 2)
            a = Pieced(chance, low, 4, one).complex
            b = Pieced(chance, low - 1, 5, [(n, s) for n, s in two if s != 1] + extra).complex
            found = equivalence(a, b)
            self.assertEqual(found is not None, same_homology(a, b))
            seen.append(found is not None)
            if found is not None:
                self.assertIs(type(found), tuple)
                self.assertEqual((found[0].source, found[0].target), (a, b))
                self.check_pair(*found)
                self.assertIs(is_equivalence(found[0]), True)
        self.assertGreater(seen.count(True), 40)
        self.assertGreater(seen.count(False), 20)

    def test_equivalence_of_ends(self):
        for a, b in ((NOTHING, NOTHING), (NOTHING, ONE), (ONE, NOTHING), (ONE, Complex(-20, (1, 1), (((-1,),),)))):
            self.check_pair(*equivalence(a, b))
        for a, b in ((NOTHING, TWO), (TWO, NOTHING), (TWO, ONE), (TWO, moved_by(TWO, 1)), (TWO, zeros(0, (1, 1)))):
            self.assertIsNone(equivalence(a, b))

    def test_eight_degrees_with_ranks_of_twelve(self):
        chance = seeded(115)
        for low, sizes in ((-20, (0, 2, 4)), (13, (0, 2, 3, 30))):
            lasting = random_pieces(chance, low, 8, 150, sizes, 9)
            more = [(n, 1) for n in range(low, low + 7)]
            one, two = Pieced(chance, low, 8, lasting + more, 25), Pieced(chance, low, 8, lasting, 25)
            self.assertGreaterEqual(max(one.complex.ranks), 11)
            for a, b in ((one.complex, two.complex), (two.complex, one.complex)):
                found = equivalence(a, b)
                self.check_pair(*found)
                self.assertTrue(self.check_back(found[0]))
            self.assertIsNone(equivalence(one.complex, moved_by(two.complex, 1)))


def cone_ranks(f):
    low, top = min(f.source.low, f.target.low), max(f.source.low, f.target.low) + 9
    return [f.source.rank(n - 1) + f.target.rank(n) for n in range(low, top)]
