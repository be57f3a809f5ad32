"""The group of chain maps up to homotopy (point 7.8)."""

from tests.helper import (
    GREAT, Case, Pieced, chain_matrices, items_of, random_pieces, random_rows, seeded, some_pieced)
from cyclebounds.build import sum_of_groups
from cyclebounds.chain import ChainMap, identity_chain, zero_chain
from cyclebounds.classes import class_of_map, map_of_class, maps_group
from cyclebounds.complexes import Complex
from cyclebounds.ext import ext_group
from cyclebounds.group import Group, are_isomorphic
from cyclebounds.homology import homology
from cyclebounds.homotopy import homotopy
from cyclebounds.maps import standard_group
from cyclebounds.rows import add, scaled, unit_matrix, unit_row
from cyclebounds.standard import pieces
from cyclebounds.tensor import hom_group

TWO = Complex(0, (1, 1), (((2,),),))
NOTHING = Complex(7, (), ())


def product_of_ranks(c, d):
    return sum(c.rank(n) * d.rank(n) for n in range(-30, 40))


def some_pairs(chance, count):
    for one in some_pieced(chance, count, 4, 7, 4):
        low = one.low + chance.choice((0, 0, 1))
        two = Pieced(chance, low, 4, random_pieces(chance, low, 4, 7, most=4))
        if product_of_ranks(one.complex, two.complex) <= 40:
            yield one, two


def told_by_homology(c, d):
    """The sum of the groups of point 7.8."""
    groups = []
    for n in range(-30, 40):
        first, second, above = (standard_group(group)[0] for group in (homology(c, n), homology(d, n), homology(d, n + 1)))
        groups += [hom_group(first, second), ext_group(first, above)]
    return sum_of_groups(groups)


def zeros(low, ranks):
    return Complex(low, ranks, [[[0] * width for _ in range(size)] for width, size in zip(ranks, ranks[1:])])


class Groups(Case):
    def test_by_hand(self):
        group, maps = maps_group(TWO, TWO)
        # Two pieces of the round of 2: the group of maps and that of extensions with what stands above, 0.
        self.assertEqual(group.invariants(), ((2,), 0))
        self.assertTrue(any(class_of_map(identity_chain(TWO))))
        self.assertFalse(any(class_of_map(identity_chain(TWO).scaled(2))))
        self.assertEqual(maps_group(TWO, Complex(1, (1,), ()))[0].invariants(), ((2,), 0))
        self.assertEqual(maps_group(Complex(1, (1,), ()), TWO)[0].order(), 1)
        self.assertEqual(maps_group(Complex(0, (1,), ()), TWO)[0].invariants(), ((2,), 0))
        self.assertEqual(maps_group(Complex(0, (2,), ()), Complex(0, (3,), ()))[0], Group(6))
        self.assertEqual(len(maps), group.n)

    def test_complexes_without_ranks_and_without_overlap(self):
        for c, d in ((NOTHING, NOTHING), (NOTHING, TWO), (TWO, NOTHING), (TWO, Complex(5, (2, 1), (((0, 1),),))),
                     (Complex(0, (0, 0), ((),)), TWO)):
            group, maps = maps_group(c, d)
            self.assertEqual((group, maps), (Group(0), ()))
            self.assertEqual(class_of_map(zero_chain(c, d)), ())
            self.assertEqual(map_of_class(c, d, ()), zero_chain(c, d))

    def test_isomorphic_to_what_homology_tells(self):
        many = 0
        for one, two in some_pairs(seeded(120), 120):
            c, d = one.complex, two.complex
            group, maps = maps_group(c, d)
            self.assertTrue(are_isomorphic(group, told_by_homology(c, d)))
            self.assertIs(type(maps), tuple)
            self.assertEqual(len(maps), group.n)
            for i, f in enumerate(maps):
                self.assertEqual((f.source, f.target), (c, d))
                self.assertEqual(class_of_map(f), group.normal(unit_row(group.n, i)))
            many += group.order() != 1
        self.assertGreater(many, 30)

    def test_classes_and_homotopies(self):
        chance = seeded(121)
        seen = []
        for one, two in some_pairs(chance, 100):
            c, d = one.complex, two.complex
            group, _ = maps_group(c, d)
            f, g = (ChainMap(c, d, chain_matrices(chance, one, two)) for _ in range(2))
            self.assertEqual(class_of_map(f + g), group.normal(add(class_of_map(f), class_of_map(g))))
            self.assertEqual(class_of_map(f.scaled(GREAT)), group.normal(scaled(class_of_map(f), GREAT)))
            self.assertEqual(class_of_map(f) == class_of_map(g), homotopy(f, g) is not None)
            self.assertEqual(not any(class_of_map(f)), homotopy(f, zero_chain(c, d)) is not None)
            seen.append(any(class_of_map(f)))
        self.assertGreater(seen.count(True), 20)
        self.assertGreater(seen.count(False), 20)

    def test_maps_of_classes(self):
        chance = seeded(122)
        for one, two in some_pairs(chance, 80):
            c, d = one.complex, two.complex
            group, maps = maps_group(c, d)
            for x in random_rows(chance, 3, group.n, 4):
                f = map_of_class(c, d, x)
                total = zero_chain(c, d)
                for item, generator in zip(x, maps):
                    total = total + generator.scaled(item)
                self.assertEqual(f, total)
                self.assertEqual(class_of_map(f), group.normal(x))
                # Rows are taken as they are, not as normal rows.
                self.assertIsNotNone(homotopy(f, map_of_class(c, d, group.normal(x))))

    def test_all_chain_maps_are_there(self):
        # The classes of a chain map and of its sum of generators are one, so they are homotopic.
        chance = seeded(123)
        for one, two in some_pairs(chance, 60):
            f = ChainMap(one.complex, two.complex, chain_matrices(chance, one, two))
            other = map_of_class(f.source, f.target, class_of_map(f))
            self.assertIsNotNone(homotopy(f, other))

    def test_generators_need_not_be_0(self):
        group, maps = maps_group(Complex(0, (1,), ()), Complex(0, (1,), ()))
        self.assertEqual(group, Group(1))
        self.assertIn(items_of(maps[0]), ([1], [-1]))


class Large(Case):
    def test_products_of_ranks(self):
        pairs = (
            (zeros(0, (5,)), zeros(0, (8,)), zeros(0, (9,))),
            (zeros(0, (4, 12)), zeros(0, (1, 3)), zeros(0, (2, 3))),
            (zeros(0, (5, 1, 12)), zeros(0, (8, 0, 0)), zeros(0, (8, 1, 0))),
            (zeros(-20, (5,) * 8), zeros(-20, (1,) * 8), zeros(-20, (1,) * 7 + (2,))),
        )
        for c, d, wide in pairs:
            self.assertEqual(product_of_ranks(c, d), 40)
            group, maps = maps_group(c, d)
            self.assertEqual((group, len(maps)), (Group(40), 40))
            self.assertEqual(class_of_map(zero_chain(c, d)), (0,) * 40)
            self.assertEqual(class_of_map(map_of_class(c, d, tuple(range(40)))), tuple(range(40)))
            self.malformed_unless_row(lambda x, c=c, d=d: map_of_class(c, d, x), 40)
            self.assertGreater(product_of_ranks(c, wide), 40)
            self.refused("large", maps_group, c, wide)
            self.refused("large", class_of_map, zero_chain(c, wide))
            for x in ((), None, (0,) * product_of_ranks(c, wide), "a"):
                self.refused("large", map_of_class, c, wide, x)

    def test_few_chain_maps_among_many_matrices(self):
        # The two matrices of a chain map are equal here, so there are 25 generators; 50 items are too many.
        c = Complex(0, (5, 5), (unit_matrix(5),))
        self.refused("large", maps_group, c, c)
        self.refused("large", class_of_map, identity_chain(c))
        self.refused("large", map_of_class, c, c, (0,) * 25)
        self.refused("large", map_of_class, c, c, None)
        d = Complex(0, (4, 4), (unit_matrix(4),))
        self.assertEqual(maps_group(c, d)[0].order(), 1)

    def test_degrees_without_overlap_do_not_count(self):
        c, d = zeros(0, (12, 0) * 4), zeros(0, (0, 12) * 4)
        self.assertEqual(maps_group(c, d), (Group(0), ()))
        c, d = zeros(0, (12, 3, 12, 0, 12, 0, 12, 0)), zeros(0, (0, 12, 0, 12, 0, 12, 0, 12))
        self.assertEqual(maps_group(c, d)[0], Group(36))

    def test_wrong_rows(self):
        for c, d in ((TWO, TWO), (NOTHING, TWO), (zeros(0, (1,)), zeros(0, (3,))), (TWO, Complex(1, (1,), ()))):
            self.malformed_unless_row(lambda x, c=c, d=d: map_of_class(c, d, x), maps_group(c, d)[0].n)

    def test_dense_boundaries(self):
        chance = seeded(124)
        c = Complex(0, (12, 5), (random_rows(chance, 5, 12, 10 ** 5),))
        d = Complex(0, (0, 8, 12), (((),) * 8, random_rows(chance, 12, 8, 10 ** 5)))
        group, _ = maps_group(c, d)
        self.assertTrue(are_isomorphic(group, told_by_homology(c, d)))
        self.assertEqual(len(pieces(c)) + len(pieces(d)), 24)
