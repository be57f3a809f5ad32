"""Cycles, boundaries, homology, fillings and bars (point 6.3)."""

from itertools import product

from tests.helper import GREAT, ODD, Case, plainly_row, random_rows, seeded, some_complexes
from cyclebounds.complexes import Complex
from cyclebounds.group import Group, cyclic_group
from cyclebounds.homology import (
    boundaries, class_of, cycle_of, cycles, filling, filling_bar, homology, is_cycle)
from cyclebounds.rows import add, coordinates, dot, is_reduced, is_row, moved, scaled, span, unit_row

ROUND = Complex(0, (1, 1, 1), (((0,),), ((2,),)))
# The edges of a triangle with its corners; a filled one has one row more.
EDGES = Complex(0, (3, 3), (((-1, 1, 0), (-1, 0, 1), (0, -1, 1)),))
FILLED = Complex(0, (3, 3, 1), (((-1, 1, 0), (-1, 0, 1), (0, -1, 1)), ((1, -1, 1),)))


def degrees_about(c):
    return range(c.low - 2, c.low + len(c.ranks) + 2)


def is_bar(c, n, z, found):
    """The words of point 6.3 and of 1.7."""
    t, m = found
    return (
        type(found) is tuple and type(m) is int and m >= 2 and is_row(t, c.rank(n))
        and all(dot(t, row) % m == 0 for row in c.boundary(n + 1)) and dot(t, z) % m != 0)


class Tables(Case):
    def test_by_hand(self):
        self.assertEqual([cycles(ROUND, n) for n in range(-1, 4)], [(), ((1,),), ((1,),), (), ()])
        self.assertEqual([boundaries(ROUND, n) for n in range(-1, 4)], [(), (), ((2,),), (), ()])
        self.assertEqual([homology(ROUND, n) for n in range(-1, 4)],
                         [Group(0), Group(1), cyclic_group(2), Group(0), Group(0)])
        self.assertEqual(cycles(EDGES, 1), ((1, -1, 1),))
        self.assertEqual(homology(EDGES, 0).invariants(), ((), 1))
        self.assertEqual(homology(EDGES, 1), Group(1))
        self.assertEqual(homology(FILLED, 1), Group(1, ((1,),)))
        self.assertEqual(homology(Complex(0, (2, 2), (((2, 4), (3, 1)),)), 0), Group(2, ((1, 7), (0, 10))))
        for n in (-GREAT, -1, 0, 1, GREAT):
            self.assertEqual(homology(Complex(0, (), ()), n), Group(0))
            self.assertEqual((cycles(Complex(0, (), ()), n), boundaries(Complex(0, (), ()), n)), ((), ()))

    def test_tables(self):
        for c, pieces in some_complexes(seeded(70), 80):
            for n in degrees_about(c):
                table, below = cycles(c, n), boundaries(c, n)
                self.assertTrue(is_reduced(table, c.rank(n)) and is_reduced(below, c.rank(n)))
                self.assertTrue(all(not any(c.turned(n, row)) for row in table))
                self.assertEqual(below, span(c.boundary(n + 1), c.rank(n)))
                group = homology(c, n)
                self.assertEqual(group, Group(len(table), [coordinates(table, row) for row in below]))
                sizes = tuple(s for m, s in pieces if m == n and s > 1)
                self.assertEqual(group.invariants(), (sizes, pieces.count((n, 0))))
                self.check_all_cycles(c, n, table)

    def check_all_cycles(self, c, n, table):
        if c.rank(n) <= 3:
            for row in product(range(-2, 3), repeat=c.rank(n)):
                self.assertEqual(is_cycle(c, n, row), coordinates(table, row) is not None)

    def test_eight_degrees_with_ranks_of_twelve(self):
        chance = seeded(71)
        one = random_rows(chance, 12, 6, 3)
        # Six columns that any rows may fill, and six that they lead from: both steps together are 0.
        rows = [row + (0,) * 6 for row in one[:6]] + [row + (0,) * 6 for row in one[6:]]
        flat = [[[0] * 12 for _ in range(12)] for _ in range(7)]
        for at in (0, 2, 4, 6):
            flat[at] = rows
        c = Complex(-20, (12,) * 8, flat)
        for n in c.degrees():
            self.assertEqual(len(cycles(c, n)) + len(boundaries(c, n - 1)), 12)
            group = homology(c, n)
            z = cycle_of(c, n, (1,) * group.n)
            self.assertEqual(filling(c, n, z) is None, any(class_of(c, n, z)))


class Cycles(Case):
    def test_is_cycle_for_every_value(self):
        for c, n in ((EDGES, 1), (EDGES, 0), (EDGES, 2), (ROUND, 2), (ROUND, -5), (Complex(0, (2, 1), (((0, 0),),)), 1)):
            self.same_truth(
                lambda value, c=c, n=n: is_cycle(c, n, value),
                lambda value, c=c, n=n: plainly_row(value, c.rank(n)) and not any(c.turned(n, value)),
                ODD + ((1, -1, 1), (1, 1, 1), (True, 0, 0), [1, -1, 1], (0, 0, 0)))

    def test_classes_and_cycles(self):
        chance = seeded(72)
        for c, _ in some_complexes(chance, 80):
            for n in degrees_about(c):
                group = homology(c, n)
                for x in random_rows(chance, 3, group.n, 5):
                    z = cycle_of(c, n, x)
                    self.assertEqual(z, moved(x, cycles(c, n), c.rank(n)))
                    self.assertTrue(is_cycle(c, n, z))
                    self.assertEqual(class_of(c, n, z), group.normal(x))
                    for y in random_rows(chance, 1, c.rank(n + 1), 5):
                        self.assertEqual(class_of(c, n, add(z, c.turned(n + 1, y))), group.normal(x))

    def test_by_hand(self):
        self.assertEqual(class_of(ROUND, 1, (5,)), (1,))
        self.assertEqual(class_of(ROUND, 0, (5,)), (5,))
        self.assertEqual(class_of(EDGES, 1, (-3, 3, -3)), (-3,))
        self.assertEqual(cycle_of(EDGES, 1, (4,)), (4, -4, 4))
        self.assertEqual(class_of(EDGES, 7, ()), ())
        self.assertEqual(cycle_of(EDGES, 7, ()), ())

    def test_malformed(self):
        for c, n in ((EDGES, 1), (EDGES, 0), (ROUND, 1), (ROUND, 2), (ROUND, 9), (Complex(0, (), ()), 0)):
            for value in ODD + ((1, -1, 1), (1, 1, 1), (0, 0, 0), [0, 0, 0], (5,)):
                good = plainly_row(value, c.rank(n)) and not any(c.turned(n, value))
                for call in (class_of, filling, filling_bar):
                    if good:
                        call(c, n, value)
                    else:
                        self.malformed(call, c, n, value)
            self.malformed_unless_row(lambda x, c=c, n=n: cycle_of(c, n, x), len(cycles(c, n)))


class Fillings(Case):
    def test_by_hand(self):
        self.assertEqual(filling(ROUND, 1, (6,)), (3,))
        self.assertIsNone(filling_bar(ROUND, 1, (6,)))
        self.assertIsNone(filling(ROUND, 1, (3,)))
        self.assertTrue(is_bar(ROUND, 1, (3,), filling_bar(ROUND, 1, (3,))))
        self.assertIsNone(filling(EDGES, 1, (1, -1, 1)))
        self.assertTrue(is_bar(EDGES, 1, (1, -1, 1), filling_bar(EDGES, 1, (1, -1, 1))))
        self.assertEqual(filling(FILLED, 1, (-GREAT, GREAT, -GREAT)), (-GREAT,))
        self.assertEqual(filling(ROUND, 9, ()), ())
        self.assertEqual(filling(Complex(0, (), ()), 0, ()), ())

    def test_always_one_of_both(self):
        chance = seeded(73)
        seen = []
        for c, _ in some_complexes(chance, 150):
            for n in degrees_about(c):
                table = cycles(c, n)
                for x in random_rows(chance, 2, len(table), 6):
                    seen.append(self.check_cycle(c, n, moved(x, table, c.rank(n))))
                for y in random_rows(chance, 1, c.rank(n + 1), 6):
                    self.assertTrue(self.check_cycle(c, n, c.turned(n + 1, y)))
                for i in range(len(table)):
                    self.check_cycle(c, n, scaled(moved(unit_row(len(table), i), table, c.rank(n)), 6))
        self.assertGreater(seen.count(False), 100)

    def check_cycle(self, c, n, z):
        y, found = filling(c, n, z), filling_bar(c, n, z)
        self.assertNotEqual(y is None, found is None)
        self.assertEqual(y is None, any(class_of(c, n, z)))
        if y is not None:
            self.assertTrue(is_row(y, c.rank(n + 1)))
            self.assertEqual(c.turned(n + 1, y), z)
        else:
            self.assertTrue(is_bar(c, n, z, found))
        return y is not None
