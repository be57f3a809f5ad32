"""Filtered complexes, their parts and steady pages (points 10.1, 10.5 and 10.7)."""

from tests.helper import ODD, Case, Levelled, deep, random_pieces, seeded, some_levelled, some_pieced
from cyclebounds.complexes import Complex
from cyclebounds.filtered import Filtered, part_of
from cyclebounds.pages import page_map
from cyclebounds.products import tensor_complex

TWO = Complex(0, (1, 1), (((2,),),))
NOTHING = Complex(7, (), ())


def level_spans(f):
    """The greatest difference of two levels, -1 without basis rows."""
    levels = [level for row in f.levels for level in row]
    return max(levels) - min(levels) if levels else -1


def steady_by_maps(f):
    """The number of the first steady page, told by all maps of all pages."""
    found = 0
    for r in range(12):
        for n in f.complex.degrees():
            if not all(page_map(f, r, p, n).is_zero() for p in range(10)):
                found = r + 1
    return found


def some_products(chance, count):
    """Products of complexes, with the degree of the first factor as the level."""
    while count:
        one, two = [found.complex for found in some_pieced(chance, 2, 3, 4, 3)]
        sizes = [sum(one.rank(p) * two.rank(n - p) for p in one.degrees()) for n in range(-9, 12)]
        if max(sizes) <= 12:
            count -= 1
            c = tensor_complex(one, two)
            yield Filtered(c, [[p - one.low for p in one.degrees() for _ in range(one.rank(p) * two.rank(n - p))]
                               for n in c.degrees()])


class Fields(Case):
    def test_fields(self):
        c = Complex(0, (1, 2), (((2,), (0,)),))
        f = Filtered(c, [[3], (4, 9)])
        self.assertEqual(f.complex, c)
        self.assertEqual(f.levels, ((3,), (4, 9)))
        self.assertEqual(Filtered(NOTHING, []).levels, ())
        self.assertEqual(Filtered(Complex(0, (0, 1), (((),),)), ((), [5])).levels, ((), (5,)))

    def test_lists_may_change_afterwards(self):
        levels = [[3], [4]]
        f = Filtered(TWO, levels)
        levels[0][0] = 9
        levels.append([1])
        self.assertEqual(f.levels, ((3,), (4,)))

    def test_malformed_complexes(self):
        for value in ODD:
            if not isinstance(value, Complex):
                self.malformed(Filtered, value, ())
                self.malformed(Filtered, value, ((0,), (1,)))

    def test_malformed_levels(self):
        for value in ODD:
            if value != () and value != []:
                self.malformed(Filtered, NOTHING, value)
            if value not in (((1,), (2,)),):
                self.malformed(Filtered, TWO, value)
            if value not in ((1,), [1]) or value in ((True,),) and value[0] is True:
                self.malformed(Filtered, TWO, ((0,), value))
                self.malformed(Filtered, TWO, [value, [9]])
            if type(value) is not int or not 0 <= value <= 9:
                self.malformed(Filtered, TWO, ([0], [value]))
                self.malformed(Filtered, TWO, ([value], [9]))
        for value in ((), ((0,),), ((0,), (0,), (0,)), ((0, 0), (0,)), ((0,), ()), ((0,), (10,)), ((-1,), (0,)),
                      ((10,), (9,)), ((0,), (True,)), ((False,), (0,)), ("0", "1"), ((0,), "1"), (deep(50), (1,))):
            self.malformed(Filtered, TWO, value)

    def test_malformed_before_levels(self):
        self.malformed(Filtered, TWO, ((5,), (10,)))
        self.malformed(Filtered, TWO, ((5,), (4,), (3,)))
        self.refused("levels", Filtered, TWO, ((5,), (4,)))

    def test_levels_from_0_to_9(self):
        for level in range(10):
            self.assertEqual(Filtered(TWO, ((level,), (level,))).levels, ((level,), (level,)))
            for other in range(10):
                if other > level:
                    self.refused("levels", Filtered, TWO, ((other,), (level,)))
                else:
                    self.assertIsNotNone(Filtered(TWO, ((other,), (level,))))
        # An item 0 bars nothing.
        free = Complex(0, (1, 1), (((0,),),))
        self.assertIsNotNone(Filtered(free, ((9,), (0,))))

    def test_levels_of_each_boundary(self):
        c = Complex(-1, (2, 2, 1), (((1, 0), (0, 0)), ((0, 5),)))
        self.assertIsNotNone(Filtered(c, ((0, 9), (0, 3), (3,))))
        self.refused("levels", Filtered, c, ((1, 9), (0, 3), (3,)))
        self.refused("levels", Filtered, c, ((0, 9), (0, 4), (3,)))
        self.assertIsNotNone(Filtered(c, ((0, 9), (9, 3), (3,))))

    def test_equal(self):
        f = Filtered(TWO, ((1,), (2,)))
        self.assertIs(f == Filtered(Complex(0, [1, 1], [[[2]]]), [[1], [2]]), True)
        self.assertIs(f == Filtered(TWO, ((1,), (3,))), False)
        self.assertIs(f == Filtered(Complex(0, (1, 1), (((4,),),)), ((1,), (2,))), False)
        self.assertIs(f != Filtered(TWO, ((1,), (3,))), True)
        for value in ODD + (TWO, f.levels):
            self.assertIs(f == value, False)


class Parts(Case):
    def check_part(self, f, p):
        c, part = f.complex, part_of(f, p)
        places = [[i for i, level in enumerate(row) if level == p] for row in f.levels]
        self.assertEqual((part.low, part.ranks), (c.low, tuple(len(row) for row in places)))
        for n in c.degrees()[1:]:
            above, below = places[n - c.low], places[n - c.low - 1]
            self.assertEqual(part.boundary(n), tuple(tuple(c.boundary(n)[i][j] for j in below) for i in above))

    def test_parts(self):
        for found in some_levelled(seeded(160), 60):
            for p in range(-2, 12):
                self.check_part(found.filtered, p)
        for p in (-10 ** 30, 10 ** 30):
            self.assertEqual(part_of(Filtered(TWO, ((1,), (2,))), p), Complex(0, (0, 0), ((),)))
            self.assertEqual(part_of(Filtered(NOTHING, ()), p), NOTHING)

    def test_by_hand(self):
        c = Complex(0, (2, 3), (((2, 0), (1, 5), (7, 3)),))
        f = Filtered(c, ((1, 4), (1, 4, 6)))
        self.assertEqual(part_of(f, 1), Complex(0, (1, 1), (((2,),),)))
        self.assertEqual(part_of(f, 4), Complex(0, (1, 1), (((5,),),)))
        self.assertEqual(part_of(f, 6), Complex(0, (0, 1), (((),),)))
        self.assertEqual(part_of(f, 2), Complex(0, (0, 0), ((),)))


class Steady(Case):
    def test_one_piece(self):
        for s in (1, 2, -3):
            c = Complex(0, (1, 1), (((s,),),))
            for p in range(10):
                for q in range(p, 10):
                    self.assertEqual(Filtered(c, ((p,), (q,))).steady(), q - p + 1)
        free = Complex(0, (1, 1), (((0,),),))
        self.assertEqual(Filtered(free, ((2,), (7,))).steady(), 0)

    def test_without_basis_rows(self):
        self.assertEqual(Filtered(NOTHING, ()).steady(), 0)
        self.assertEqual(Filtered(Complex(0, (0, 0), ((),)), ((), ())).steady(), 0)
        self.assertEqual(Filtered(Complex(0, (3,), ()), ((0, 5, 9),)).steady(), 0)

    def test_known_pieces(self):
        seen = []
        for found in some_levelled(seeded(161), 120):
            expected = max([q - p + 1 for _, s, p, q in found.pieces if s > 0], default=0)
            self.assertEqual(found.filtered.steady(), expected)
            self.assertLessEqual(expected, level_spans(found.filtered) + 1)
            seen.append(expected)
        self.assertGreater(len(set(seen)), 6)

    def test_all_maps_of_all_pages(self):
        for found in some_levelled(seeded(162), 12):
            self.assertEqual(found.filtered.steady(), steady_by_maps(found.filtered))
        for f in some_products(seeded(163), 15):
            self.assertEqual(f.steady(), steady_by_maps(f))
            self.assertLessEqual(f.steady(), level_spans(f) + 1)

    def test_steps_that_only_others_let_be(self):
        # The boundary of the upper row is 2 at the level 3 and 1 at the level 0: what the page 0 leaves moves on.
        c = Complex(0, (2, 1), (((1, 2),),))
        for p, q, r, steady in ((0, 3, 3, 1), (0, 1, 3, 3), (0, 0, 5, 6), (3, 0, 9, 7)):
            f = Filtered(c, ((p, q), (r,)))
            self.assertEqual(f.steady(), steady_by_maps(f))
            self.assertEqual(f.steady(), steady)

    def test_large(self):
        chance = seeded(164)
        pieces = []
        for n, s in random_pieces(chance, -20, 8, 200, (0, 1, 2, 6)):
            levels = sorted(chance.randint(0, 9) for _ in range(2))
            pieces.append((n, s, *levels))
        found = Levelled(chance, -20, 8, pieces, 60)
        self.assertEqual(found.filtered.steady(), max(q - p + 1 for _, s, p, q in pieces if s > 0))
