"""Coefficients: homology modulo m, reduction, Bockstein maps, the row of universal coefficients (points 9.5 and 9.6)."""

import math

from tests.helper import GREAT, ODD, Case, Pieced, boxes, plainly_row, random_pieces, random_rows, seeded, some_complexes
from cyclebounds.coefficients import (
    bockstein, class_modulo, cycles_modulo, homology_modulo, reduction, universal_row)
from cyclebounds.complexes import Complex
from cyclebounds.exact import is_exact
from cyclebounds.extension import Extension, section
from cyclebounds.group import Group, are_isomorphic
from cyclebounds.homology import class_of, cycle_of, homology
from cyclebounds.maps import group_of, identity_map, quotient_of
from cyclebounds.rows import add, coordinates, holds, is_reduced, moved, scaled
from cyclebounds.smith import chained
from cyclebounds.subgroup import annulled, multiples

TWO = Complex(0, (1, 1), (((2,),),))
NOTHING = Complex(3, (), ())
MODULI = (2, 3, 4, 6, 12, 49)


def degrees_around(c):
    return range(c.low - 2, c.low + len(c.ranks) + 2)


def some_cases(number, count):
    chance = seeded(number)
    for c, found in some_complexes(chance, count):
        for n in degrees_around(c):
            yield chance, c, found, chance.choice(MODULI), n


class Modulus(Case):
    def test_every_other_value_is_malformed(self):
        calls = (cycles_modulo, homology_modulo, reduction, bockstein, universal_row)
        for value in ODD + (1, 0, -1, -2, 2.0):
            if type(value) is int and value >= 2:
                for call in calls:
                    self.assertIsNotNone(call(TWO, value, 1))
                continue
            for call in calls:
                self.malformed(call, TWO, value, 1)
                self.malformed(call, NOTHING, value, 0)
            self.malformed(class_modulo, TWO, value, 1, (1,))
            self.malformed(class_modulo, TWO, value, 1, None)

    def test_least_modulus(self):
        self.assertEqual(cycles_modulo(TWO, 2, 1), ((1,),))
        self.assertEqual(homology_modulo(TWO, 2, 1).relations, ((2,),))
        self.assertEqual(homology_modulo(TWO, GREAT, 1).invariants(), ((), 0))


class Cycles(Case):
    def test_cycles_one_by_one(self):
        for chance, c, _, m, n in some_cases(150, 60):
            table = cycles_modulo(c, m, n)
            self.assertTrue(is_reduced(table, c.rank(n)))
            for x in random_rows(chance, 6, c.rank(n), 4):
                self.assertEqual(holds(table, x), all(item % m == 0 for item in c.turned(n, x)))

    def test_all_rows_modulo(self):
        for chance, c, _, m, n in some_cases(151, 60):
            if m ** c.rank(n) > 300:
                continue
            closed = {x for x in boxes(c.rank(n), m) if all(item % m == 0 for item in c.turned(n, x))}
            table = cycles_modulo(c, m, n)
            self.assertEqual({x for x in boxes(c.rank(n), m) if holds(table, x)}, closed)
            if m ** c.rank(n + 1) > 300:
                continue
            bounding = {tuple(item % m for item in c.turned(n + 1, x)) for x in boxes(c.rank(n + 1), m)}
            self.assertEqual(homology_modulo(c, m, n).order() * len(bounding), len(closed))

    def test_group(self):
        for chance, c, _, m, n in some_cases(152, 80):
            group, table = homology_modulo(c, m, n), cycles_modulo(c, m, n)
            self.assertIsInstance(group, Group)
            self.assertEqual(group.n, len(table))
            for relation in group.relations:
                row = moved(relation, table, c.rank(n))
                modulo = Complex(c.low, c.ranks, c.boundaries)
                self.assertEqual(class_modulo(modulo, m, n, row), (0,) * group.n)
            for x in random_rows(chance, 2, c.rank(n), 3):
                self.assertTrue(group.is_zero(coordinates(table, scaled(x, m))))
            for y in random_rows(chance, 2, c.rank(n + 1), 3):
                self.assertTrue(group.is_zero(coordinates(table, c.turned(n + 1, y))))

    def test_known_pieces(self):
        for _, c, found, m, n in some_cases(153, 100):
            sizes = [math.gcd(s, m) for at, s in found if at == n or at == n - 1 and s > 0]
            expected = tuple(size for size in chained(sizes) if size > 1)
            self.assertEqual(homology_modulo(c, m, n).invariants(), (expected, 0))

    def test_large(self):
        chance = seeded(154)
        found = random_pieces(chance, 13, 8, 200, (0, 2, 4, 12))
        c = Pieced(chance, 13, 8, found, 30).complex
        for n in degrees_around(c):
            for m in (2, 8, 9):
                sizes = [math.gcd(s, m) for at, s in found if at == n or at == n - 1 and s > 0]
                expected = tuple(size for size in chained(sizes) if size > 1)
                self.assertEqual(homology_modulo(c, m, n).invariants(), (expected, 0))
                self.assertEqual(section(universal_row(c, m, n)).source, universal_row(c, m, n).last())

    def test_classes(self):
        for chance, c, _, m, n in some_cases(155, 80):
            group, table = homology_modulo(c, m, n), cycles_modulo(c, m, n)
            for x in random_rows(chance, 3, group.n, 3):
                z = moved(x, table, c.rank(n))
                self.assertEqual(class_modulo(c, m, n, z), group.normal(x))
                other = add(z, scaled(random_rows(chance, 1, c.rank(n), 3)[0], m))
                other = add(other, c.turned(n + 1, random_rows(chance, 1, c.rank(n + 1), 3)[0]))
                self.assertEqual(class_modulo(c, m, n, other), group.normal(x))

    def test_no_cycles(self):
        for c, m, n in ((TWO, 2, 1), (TWO, 4, 1), (TWO, 4, 0), (NOTHING, 3, 0), (TWO, 5, 7)):
            for value in ODD + ((2,), (4,), (-1,), (0, 0), [0], [4]):
                plain = plainly_row(value, c.rank(n))
                if plain and all(item % m == 0 for item in c.turned(n, value)):
                    self.assertIsInstance(class_modulo(c, m, n, value), tuple)
                else:
                    self.malformed(class_modulo, c, m, n, value)


class Maps(Case):
    def test_reduction(self):
        for chance, c, _, m, n in some_cases(156, 80):
            f = reduction(c, m, n)
            self.assertEqual((f.source, f.target), (homology(c, n), homology_modulo(c, m, n)))
            for x in random_rows(chance, 3, f.source.n, 3):
                self.assertEqual(f.value(x), class_modulo(c, m, n, cycle_of(c, n, x)))
            self.assertEqual(f.kernel(), multiples(f.source, m))

    def test_bockstein(self):
        for chance, c, _, m, n in some_cases(157, 80):
            f, table = bockstein(c, m, n), cycles_modulo(c, m, n)
            self.assertEqual((f.source, f.target), (homology_modulo(c, m, n), homology(c, n - 1)))
            for x in random_rows(chance, 3, f.source.n, 3):
                turned = c.turned(n, moved(x, table, c.rank(n)))
                self.assertEqual(f.value(x), class_of(c, n - 1, tuple(item // m for item in turned)))
            self.assertEqual(f.image(), annulled(f.target, m))
            self.assertTrue(is_exact(reduction(c, m, n), f))

    def test_universal_row(self):
        for _, c, _, m, n in some_cases(158, 80):
            x = universal_row(c, m, n)
            self.assertIsInstance(x, Extension)
            first, onto = quotient_of(multiples(homology(c, n), m))
            last, into = group_of(annulled(homology(c, n - 1), m))
            self.assertEqual((x.first(), x.middle(), x.last()), (first, homology_modulo(c, m, n), last))
            self.assertEqual(onto.then(x.i), reduction(c, m, n))
            self.assertEqual(x.p.then(into), bockstein(c, m, n))
            self.assertTrue(x.i.is_one_to_one() and x.p.is_onto() and is_exact(x.i, x.p))
            self.assertEqual(section(x).then(x.p), identity_map(last))

    def test_by_hand(self):
        four = Complex(0, (1, 1), (((4,),),))
        self.assertEqual(reduction(four, 6, 0).value((1,)), (1,))
        self.assertEqual(homology_modulo(four, 6, 0).relations, ((2,),))
        self.assertEqual(cycles_modulo(four, 6, 1), ((3,),))
        self.assertEqual(bockstein(four, 6, 1).value((1,)), (2,))
        self.assertEqual(universal_row(four, 6, 1).last().order(), 2)
        self.assertEqual(bockstein(TWO, 2, 1).value((1,)), (1,))
        self.assertTrue(are_isomorphic(universal_row(TWO, 2, 1).middle(), homology(TWO, 0)))

    def test_far_degrees_and_no_ranks(self):
        for c in (NOTHING, TWO):
            for n in (-10 ** 30, 10 ** 30, 50):
                self.assertEqual(cycles_modulo(c, 2, n), ())
                self.assertEqual(homology_modulo(c, 2, n), Group(0))
                self.assertEqual(class_modulo(c, 2, n, ()), ())
                self.assertEqual(universal_row(c, 2, n).middle(), Group(0))

    def test_great_moduli(self):
        c = Complex(0, (2, 2), (((GREAT, 0), (3, 2 * GREAT)),))
        for m in (GREAT, 2 * GREAT, 3 * GREAT, GREAT + 1):
            for n in (0, 1, 2):
                x = universal_row(c, m, n)
                self.assertEqual(section(x).then(x.p), identity_map(x.last()))
