"""Homotopies, bars and contractions (points 7.2 to 7.4)."""

from tests.helper import (
    GREAT, ODD, Case, Pieced, bounding_matrices, chain_matrices, plainly_row, plainly_rows, random_pieces, seeded,
    some_chain_maps, some_pieced)
from cyclebounds.chain import ChainMap, identity_chain, zero_chain
from cyclebounds.complexes import Complex
from cyclebounds.homology import homology
from cyclebounds.homotopy import contraction, homotopy, homotopy_bar, is_homotopy
from cyclebounds.rows import add, dot, scaled, unit_matrix

TWO = Complex(0, (1, 1), (((2,),),))
ONE = Complex(0, (1, 1), (((1,),),))


def moved_by_rows(rows, x, width):
    found = (0,) * width
    for item, row in zip(x, rows):
        found = add(found, scaled(row, item))
    return found


def shows_homotopic(f, g, value):
    """The words of point 7.2 at each unit row of each degree."""
    c, d = f.source, f.target
    if type(value) is not tuple or len(value) != len(c.ranks):
        return False
    if not all(type(rows) is tuple and all(type(row) is tuple for row in rows) and plainly_rows(rows, d.rank(n + 1))
               and len(rows) == c.rank(n) for n, rows in zip(c.degrees(), value)):
        return False
    for index, n in enumerate(c.degrees()):
        for x in unit_matrix(c.rank(n)):
            up = d.turned(n + 1, moved_by_rows(value[index], x, d.rank(n + 1)))
            down = moved_by_rows(value[index - 1] if index else (), c.turned(n, x), d.rank(n))
            if add(f.value(n, x), scaled(g.value(n, x), -1)) != add(up, down):
                return False
    return True


def shows_bar(f, g, found):
    """The words of point 7.3."""
    n, m, z, t = found
    c, d = f.source, f.target
    return (
        type(found) is tuple and type(n) is int and type(m) is int and m >= 2
        and plainly_row(z, c.rank(n)) and plainly_row(t, d.rank(n))
        and all(item % m == 0 for item in c.turned(n, z))
        and all(dot(t, row) % m == 0 for row in d.boundary(n + 1))
        and dot(t, add(f.value(n, z), scaled(g.value(n, z), -1))) % m != 0)


class Judged(Case):
    def check_pair(self, f, g):
        """One of a homotopy and a bar, told as the document says; the answer is whether they are homotopic."""
        value, found = homotopy(f, g), homotopy_bar(f, g)
        self.assertNotEqual(value is None, found is None)
        if value is not None:
            self.assertTrue(shows_homotopic(f, g, value))
            self.assertIs(is_homotopy(f, g, value), True)
            for n in range(f.source.low - 1, f.source.low + len(f.source.ranks) + 1):
                self.assertTrue(f.induced(n) == g.induced(n))
        else:
            self.assertTrue(shows_bar(f, g, found))
        return value is not None


class Homotopies(Judged):
    def test_by_hand(self):
        f = identity_chain(TWO).scaled(2)
        self.assertEqual(homotopy(f, zero_chain(TWO, TWO)), (((1,),), ((),)))
        self.assertIsNone(homotopy_bar(f, zero_chain(TWO, TWO)))
        self.assertFalse(self.check_pair(identity_chain(TWO), zero_chain(TWO, TWO)))
        self.assertTrue(self.check_pair(identity_chain(TWO), -identity_chain(TWO)))
        self.assertTrue(self.check_pair(identity_chain(ONE), zero_chain(ONE, ONE)))
        # It induces 0 on homology and is not homotopic to 0.
        d = Complex(1, (1,), ())
        g = ChainMap(TWO, d, (((),), ((1,),)))
        self.assertTrue(all(g.induced(n).is_zero() for n in range(-1, 4)))
        self.assertIsNone(homotopy(g, zero_chain(TWO, d)))
        self.assertFalse(self.check_pair(g, zero_chain(TWO, d)))
        self.assertTrue(self.check_pair(g.scaled(2), zero_chain(TWO, d)))
        self.assertTrue(self.check_pair(g, g.scaled(GREAT)))
        self.assertFalse(self.check_pair(g, g.scaled(GREAT + 1)))

    def test_great_numbers(self):
        c = Complex(0, (1, 1), (((GREAT,),),))
        one, nothing = identity_chain(c), zero_chain(c, c)
        self.assertTrue(self.check_pair(one.scaled(GREAT * GREAT), nothing))
        self.assertFalse(self.check_pair(one.scaled(GREAT + 1), nothing))
        self.assertTrue(self.check_pair(one.scaled(GREAT + 1), one))

    def test_complexes_without_ranks(self):
        nothing = Complex(3, (), ())
        for f in (zero_chain(nothing, TWO), zero_chain(nothing, nothing)):
            self.assertTrue(self.check_pair(f, f))
            self.assertEqual(homotopy(f, f), ())
        self.assertTrue(self.check_pair(zero_chain(TWO, nothing), zero_chain(TWO, nothing)))
        self.assertEqual(homotopy(zero_chain(TWO, nothing), zero_chain(TWO, nothing)), (((),), ((),)))
        self.assertEqual(homotopy(identity_chain(Complex(0, (0, 0), ((),))), identity_chain(Complex(0, (0, 0), ((),)))),
                         ((), ()))

    def test_degrees_that_do_not_overlap(self):
        c, d = Complex(0, (1, 1), (((2,),),)), Complex(2, (2, 1), (((3, 3),),))
        f = zero_chain(c, d)
        self.assertTrue(self.check_pair(f, f))
        self.assertEqual([len(rows) for rows in homotopy(f, f)], [1, 1])
        self.assertTrue(all(len(row) == 2 for row in homotopy(f, f)[1]))
        self.assertTrue(self.check_pair(zero_chain(d, c), zero_chain(d, c)))
        far = Complex(20, (3,), ())
        self.assertTrue(self.check_pair(zero_chain(c, far), zero_chain(c, far)))

    def test_always_one_of_both(self):
        seen = [self.check_pair(f, zero_chain(f.source, f.target)) for f in some_chain_maps(seeded(100), 250)]
        self.assertGreater(seen.count(False), 60)
        self.assertGreater(seen.count(True), 60)

    def test_those_that_are_made_homotopic(self):
        chance = seeded(101)
        for one in some_pieced(chance, 80):
            low = one.low + chance.randint(-1, 1)
            two = Pieced(chance, low, 4, random_pieces(chance, low, 4, 6, most=4))
            c, d = one.complex, two.complex
            f = ChainMap(c, d, chain_matrices(chance, one, two))
            moves, around = bounding_matrices(chance, c, d, 3)
            g = f - ChainMap(c, d, around)
            self.assertTrue(shows_homotopic(f, g, moves))
            self.assertIs(is_homotopy(f, g, moves), True)
            self.assertTrue(self.check_pair(f, g))
            self.assertTrue(self.check_pair(g, f))

    def test_eight_degrees_with_ranks_of_twelve(self):
        chance = seeded(102)
        seen = []
        for sizes in ((0, 1, 2, 3, 6), (1, 2, 4, 8), (0, 5, 10)):
            one = Pieced(chance, -4, 8, random_pieces(chance, -4, 8, 200, sizes), 25)
            two = Pieced(chance, -3, 8, random_pieces(chance, -3, 8, 200, sizes), 25)
            for source, target in ((one, two), (two, one), (one, one)):
                f = ChainMap(source.complex, target.complex, chain_matrices(chance, source, target))
                seen.append(self.check_pair(f, zero_chain(f.source, f.target)))
                seen.append(self.check_pair(f, f.scaled(1 + 24 * 10)))
        self.assertIn(False, seen)

    def test_homotopic_by_a_multiple(self):
        # Twelve times twelve annuls all groups of maps and of extensions of rounds whose orders divide 12.
        chance = seeded(103)
        for sizes in ((1, 2, 3, 4, 6, 12), (1, 2, 4), (3,)):
            one = Pieced(chance, 0, 8, random_pieces(chance, 0, 8, 200, sizes), 15)
            two = Pieced(chance, 0, 8, random_pieces(chance, 0, 8, 200, (1, 2, 3, 0)), 15)
            f = ChainMap(one.complex, two.complex, chain_matrices(chance, one, two)).scaled(144)
            self.assertTrue(self.check_pair(f, zero_chain(f.source, f.target)))


class Looked(Judged):
    def test_is_homotopy_for_every_value(self):
        c = Complex(0, (1, 1, 0), (((2,),), ()))
        pairs = ((identity_chain(TWO).scaled(2), zero_chain(TWO, TWO)), (identity_chain(c), identity_chain(c)),
                 (zero_chain(TWO, ONE), zero_chain(TWO, ONE)), (zero_chain(ONE, Complex(0, (), ())),) * 2,
                 (zero_chain(Complex(0, (), ()), ONE),) * 2, (identity_chain(TWO), zero_chain(TWO, TWO)))
        values = ODD + tuple(((first,), (second,)) for first in ((), (0,), (1,), [1], (True,), (1, 0))
                             for second in ((), (0,), (1,), None))
        values = values + tuple((first, second) for first in ODD for second in ((), ((),), [()]))
        values = values + (((), (), ()), (((0,),), ((),), ()), [((1,),), ((),)], (((1,),), [()]), ([(1,)], ((),)))
        for f, g in pairs:
            self.same_truth(lambda value, f=f, g=g: is_homotopy(f, g, value),
                            lambda value, f=f, g=g: shows_homotopic(f, g, value), values)
        self.assertIs(is_homotopy(*pairs[0], (((1,),), ((),))), True)

    def test_near_misses(self):
        chance = seeded(104)
        for f in some_chain_maps(chance, 80):
            nothing = zero_chain(f.source, f.target)
            value = homotopy(f, nothing)
            if value is None:
                continue
            for at, rows in enumerate(value):
                if rows and rows[0]:
                    other = list(map(list, rows))
                    other[chance.randrange(len(rows))][chance.randrange(len(rows[0]))] += chance.choice((-1, 1))
                    wrong = value[:at] + (tuple(map(tuple, other)),) + value[at + 1:]
                    self.assertEqual(is_homotopy(f, nothing, wrong), shows_homotopic(f, nothing, wrong))
            self.assertIs(is_homotopy(f, nothing, list(value)), False)
            self.assertIs(is_homotopy(f, nothing, value + ((),)), False)

    def test_malformed_first(self):
        f, g = identity_chain(TWO), identity_chain(ONE)
        nothing = Complex(0, (), ())
        for one, two in ((f, g), (f, zero_chain(TWO, ONE)), (f, zero_chain(ONE, TWO)),
                         (zero_chain(nothing, TWO), zero_chain(Complex(1, (), ()), TWO))):
            for first, second in ((one, two), (two, one)):
                self.malformed(homotopy, first, second)
                self.malformed(homotopy_bar, first, second)
                for value in (None, (), (((1,),), ((),)), "a"):
                    self.malformed(is_homotopy, first, second, value)


class Contractions(Judged):
    def test_contractions(self):
        seen = []
        for one in some_pieced(seeded(105), 150, 4, 3, 4):
            c = one.complex
            value = contraction(c)
            zero_homology = all(homology(c, n).order() == 1 for n in c.degrees())
            self.assertEqual(value is not None, zero_homology)
            if value is not None:
                self.assertTrue(shows_homotopic(identity_chain(c), zero_chain(c, c), value))
            seen.append(zero_homology)
        self.assertGreater(seen.count(True), 20)
        self.assertGreater(seen.count(False), 20)

    def test_by_hand(self):
        self.assertEqual(contraction(ONE), (((1,),), ((),)))
        self.assertIsNone(contraction(TWO))
        self.assertIsNone(contraction(Complex(0, (1,), ())))
        self.assertEqual(contraction(Complex(0, (), ())), ())
        self.assertEqual(contraction(Complex(0, (0, 0), ((),))), ((), ()))

    def test_eight_degrees_with_ranks_of_twelve(self):
        chance = seeded(106)
        one = Pieced(chance, -20, 8, random_pieces(chance, -20, 8, 300, (1,)), 40)
        c = one.complex
        self.assertEqual(max(c.ranks), 12)
        self.assertTrue(shows_homotopic(identity_chain(c), zero_chain(c, c), contraction(c)))
