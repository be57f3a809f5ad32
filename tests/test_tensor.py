"""Tensor products, groups of maps and Tor (points 4.4 to 4.7)."""

from itertools import product
from math import gcd

from tests.helper import FINITE, GREAT, Case, all_maps, combined, images_of, plus, random_rows, seeded
from tests.test_maps import ENDLESS, some_maps
from cyclebounds.group import Group, are_isomorphic, cyclic_group, free_group
from cyclebounds.build import sum_of_groups
from cyclebounds.maps import Map, group_of, identity_map, zero_map
from cyclebounds.rows import add, moved, scaled, unit_row
from cyclebounds.subgroup import Subgroup
from cyclebounds.tensor import (
    hom_group, hom_into, hom_map, hom_of, hom_row, tensor_group, tensor_map, tensor_of, tor_group, tor_into, tor_map)

TINY = (FINITE[0], FINITE[2], FINITE[3], FINITE[4], FINITE[5], FINITE[7])
ALL = FINITE + ENDLESS


def orders_of(group):
    divisors, rank = group.invariants()
    return divisors + (0,) * rank


def split(row, n, width):
    return tuple(row[i * width:(i + 1) * width] for i in range(n))


class Tensors(Case):
    def test_by_hand(self):
        self.assertEqual(tensor_group(cyclic_group(4), cyclic_group(6)).invariants(), ((2,), 0))
        a, b = Group(2, ((2, 1),)), Group(2, ((0, 3),))
        # The generators are (0, 0), (0, 1), (1, 0), (1, 1); the first relations are those of a.
        expected = Group(4, ((2, 0, 1, 0), (0, 2, 0, 1), (0, 3, 0, 0), (0, 0, 0, 3)))
        self.assertEqual(tensor_group(a, b), expected)
        self.assertEqual(tensor_group(Group(0), b), Group(0))
        self.assertEqual(tensor_group(b, Group(0)), Group(0))
        self.assertEqual(tensor_group(Group(1), b), b)
        self.assertEqual(tensor_of(Group(2), Group(3), (2, 3), (1, 0, -5)), (2, 0, -10, 3, 0, -15))
        self.assertEqual(tensor_of(cyclic_group(4), cyclic_group(6), (3,), (5,)), (1,))
        self.assertEqual(tensor_of(Group(0), b, (), (1, 2)), ())

    def test_point_4_7(self):
        for a in ALL:
            for b in ALL:
                sums = [cyclic_group(gcd(k, other)) for k in orders_of(a) for other in orders_of(b)]
                self.assertTrue(are_isomorphic(tensor_group(a, b), sum_of_groups(sums)))
                rounds = [cyclic_group(gcd(k, other)) for k in orders_of(a) for other in orders_of(b) if k and other]
                self.assertTrue(are_isomorphic(tor_group(a, b), sum_of_groups(rounds)))
                homs = [cyclic_group(gcd(k, other)) for k in orders_of(a) for other in orders_of(b) if other or not k]
                self.assertTrue(are_isomorphic(hom_group(a, b), sum_of_groups(homs)))

    def test_products_keep_sums_in_each_place(self):
        chance = seeded(34)
        for _ in range(60):
            a, b = chance.choice(ALL), chance.choice(ALL)
            group = tensor_group(a, b)
            x, other = random_rows(chance, 2, a.n, 6)
            y, second = random_rows(chance, 2, b.n, 6)
            self.assertEqual(tensor_of(a, b, add(x, other), y),
                             plus(group, tensor_of(a, b, x, y), tensor_of(a, b, other, y)))
            self.assertEqual(tensor_of(a, b, x, add(y, second)),
                             plus(group, tensor_of(a, b, x, y), tensor_of(a, b, x, second)))
            self.assertEqual(tensor_of(a, b, a.normal(x), b.normal(y)), tensor_of(a, b, x, y))
            for i, j in product(range(a.n), range(b.n)):
                self.assertEqual(tensor_of(a, b, unit_row(a.n, i), unit_row(b.n, j)),
                                 group.normal(unit_row(a.n * b.n, i * b.n + j)))

    def test_functions_that_keep_sums_are_maps_of_the_product(self):
        # They are as many as maps from a to the group of maps from b to c.
        for a, b, c in product(TINY, TINY, (FINITE[3], FINITE[4])):
            pairings = 0
            for images in product(c.all_elements(), repeat=a.n * b.n):
                table = split(images, a.n, b.n)
                lefts = [combined(row, [table[i][j] for i in range(a.n)], c.n) for row in a.relations for j in range(b.n)]
                rights = [combined(row, table[i], c.n) for row in b.relations for i in range(a.n)]
                pairings += all(c.is_zero(x) for x in lefts + rights)
            self.assertEqual(hom_group(tensor_group(a, b), c).order(), pairings)

    def test_tensor_map(self):
        chance = seeded(35)
        maps = list(some_maps(chance, 60))
        for f, g in zip(maps[::2], maps[1::2]):
            h = tensor_map(f, g)
            self.assertEqual(h.source, tensor_group(f.source, g.source))
            self.assertEqual(h.target, tensor_group(f.target, g.target))
            x, y = random_rows(chance, 1, f.source.n, 4)[0], random_rows(chance, 1, g.source.n, 4)[0]
            self.assertEqual(h.value(tensor_of(f.source, g.source, x, y)),
                             tensor_of(f.target, g.target, f.value(x), g.value(y)))
        self.assertTrue(tensor_map(identity_map(ALL[9]), identity_map(ALL[4])) ==
                        identity_map(tensor_group(ALL[9], ALL[4])))

    def test_errors(self):
        for a, b in ((Group(0), Group(2)), (cyclic_group(3), Group(3)), (Group(2, ((2, 0),)), Group(1))):
            self.malformed_unless_row(lambda x: tensor_of(a, b, x, (0,) * b.n), a.n)
            self.malformed_unless_row(lambda y: tensor_of(a, b, (0,) * a.n, y), b.n)
        six, seven = free_group(6), free_group(7)
        self.malformed(tensor_of, six, seven, (0,) * 6, (0,) * 6)
        self.malformed(tensor_of, six, seven, None, (0,) * 7)
        self.refused("large", tensor_of, six, seven, (0,) * 6, (0,) * 7)


class Large(Case):
    def test_products_of_the_numbers_of_generators(self):
        for n, m in ((40, 1), (1, 40), (5, 8), (20, 2), (0, 40), (40, 0)):
            a, b = free_group(n), Group(m, ((2,) + (0,) * (m - 1),) if m else ())
            for call in (tensor_group, hom_group, tor_group):
                self.assertLessEqual(call(a, b).n, 40)
        self.assertEqual(tensor_group(free_group(5), free_group(8)), free_group(40))
        # No two groups have 41 as the product, since 41 generators are refused: 42 is the least above 40.
        for n, m in ((6, 7), (40, 2), (3, 14), (40, 40)):
            a, b, one = free_group(n), free_group(m), Group(1)
            for call in (tensor_group, hom_group, hom_into, tor_group, tor_into):
                self.refused("large", call, a, b)
            self.refused("large", hom_of, a, b, (0,) * (n * m))
            self.refused("large", hom_of, a, b, None)
            self.refused("large", hom_row, zero_map(a, b))
            self.refused("large", tor_map, zero_map(a, one), b)
            self.refused("large", tor_map, zero_map(one, a), b)
            self.refused("large", tensor_map, zero_map(a, one), zero_map(b, one))
            self.refused("large", tensor_map, zero_map(one, a), zero_map(one, b))
            self.refused("large", hom_map, zero_map(one, a), zero_map(b, one))
            self.refused("large", hom_map, zero_map(a, one), zero_map(one, b))

    def test_tor_is_refused_by_generators_not_by_relations(self):
        self.refused("large", tor_group, free_group(21), free_group(2))
        self.refused("large", tor_group, Group(21, ((2,) + (0,) * 20,)), free_group(2))


class Homs(Case):
    def test_by_hand(self):
        four, six = cyclic_group(4), cyclic_group(6)
        self.assertEqual(hom_of(four, six, (1,)).value((1,)), (3,))
        self.assertEqual(hom_group(four, six).relations, ((2,),))
        self.assertEqual(hom_into(four, six).matrix, ((3,),))
        self.assertEqual(hom_row(Map(four, six, ((9,),))), (1,))
        self.assertEqual(hom_group(six, Group(1)), Group(0))
        self.assertEqual(hom_group(Group(2), six), tensor_group(Group(2), six))
        self.assertEqual(hom_group(Group(0), six), Group(0))
        self.assertEqual(hom_group(six, Group(0)), Group(0))
        self.assertEqual(hom_of(Group(0), six, ()), zero_map(Group(0), six))
        self.assertEqual(hom_row(zero_map(six, Group(0))), ())

    def test_groups_of_maps_tell_all_maps_once(self):
        for a in FINITE[:9]:
            for b in FINITE[:8]:
                group = hom_group(a, b)
                known = all_maps(a, b)
                self.assertEqual(group.order(), len(known))
                self.check_into(a, b, group)
                if len(known) <= 20:
                    found = {x: hom_of(a, b, x) for x in group.all_elements()}
                    for x, f in found.items():
                        self.assertEqual((f.source, f.target), (a, b))
                        self.assertEqual(hom_row(f), x)
                        self.assertEqual([g == f for g in known].count(True), 1)
                    for x, y in product(list(found)[:6], repeat=2):
                        self.assertTrue(found[plus(group, x, y)] == found[x] + found[y])

    def check_into(self, a, b, group):
        into = hom_into(a, b)
        self.assertEqual(into.source, group)
        self.assertEqual(into.target, tensor_group(free_group(a.n), b))
        self.assertEqual(group_of(into.image())[0], group)
        self.assertEqual(into.matrix, into.image().rows)
        for x in [unit_row(group.n, i) for i in range(group.n)]:
            images = split(into.value(x), a.n, b.n)
            self.assertTrue(hom_of(a, b, x) == Map(a, b, images))

    def test_endless(self):
        chance = seeded(36)
        for f in some_maps(chance, 60):
            group = hom_group(f.source, f.target)
            self.check_into(f.source, f.target, group)
            row = hom_row(f)
            self.assertEqual(row, group.normal(row))
            self.assertTrue(hom_of(f.source, f.target, row) == f)
            self.assertEqual(hom_row(f.scaled(GREAT)), group.normal(scaled(row, GREAT)))

    def test_hom_of_malformed(self):
        for a, b in ((cyclic_group(4), cyclic_group(6)), (Group(2), Group(1)), (cyclic_group(2), Group(1)),
                     (Group(1), Group(3))):
            self.malformed_unless_row(lambda x: hom_of(a, b, x), hom_group(a, b).n)

    def test_hom_map(self):
        maps = list(some_maps(seeded(37), 50))
        for f, g in zip(maps[::2], maps[1::2]):
            h = hom_map(f, g)
            self.assertEqual(h.source, hom_group(f.target, g.source))
            self.assertEqual(h.target, hom_group(f.source, g.target))
            for i in range(h.source.n):
                x = unit_row(h.source.n, i)
                middle = hom_of(f.target, g.source, x)
                self.assertEqual(h.value(x), hom_row(f.then(middle).then(g)))
        a, b = FINITE[9], ENDLESS[2]
        self.assertTrue(hom_map(identity_map(a), identity_map(b)) == identity_map(hom_group(a, b)))


class Tors(Case):
    def test_by_hand(self):
        four, six = cyclic_group(4), cyclic_group(6)
        self.assertEqual(tor_group(four, six).relations, ((2,),))
        self.assertEqual(tor_into(four, six).matrix, ((3,),))
        self.assertEqual(tor_group(Group(3), six), Group(0))
        self.assertEqual(tor_group(six, Group(3)), Group(0))
        self.assertEqual(tor_group(Group(0), six), Group(0))
        self.assertEqual(tor_group(four, Group(0)), Group(0))

    def test_against_walks(self):
        for a in FINITE[:9]:
            for b in TINY:
                k = len(a.relations)
                walked = set()
                for rows in product(b.all_elements(), repeat=k):
                    sums = [combined([row[c] for row in a.relations], rows, b.n) for c in range(a.n)]
                    if all(b.is_zero(x) for x in sums):
                        walked.add(tuple(item for row in rows for item in row))
                group, into = tor_group(a, b), tor_into(a, b)
                self.assertEqual(into.source, group)
                self.assertEqual(into.target, tensor_group(free_group(k), b))
                self.assertEqual(group.order(), len(walked))
                self.assertEqual(set(images_of(into).values()), walked)
                self.assertEqual(group_of(Subgroup(into.target, sorted(walked)))[0], group)
                self.assertEqual(into.matrix, into.image().rows)

    def test_tor_map(self):
        for f in some_maps(seeded(38), 60):
            for b in (FINITE[4], FINITE[8], ENDLESS[2]):
                h = tor_map(f, b)
                self.assertEqual((h.source, h.target), (tor_group(f.source, b), tor_group(f.target, b)))
                before, after = tor_into(f.source, b), tor_into(f.target, b)
                k = len(f.source.relations)
                for i in range(h.source.n):
                    x = unit_row(h.source.n, i)
                    rows = split(moved(x, before.matrix, before.target.n), k, b.n)
                    # The element told by the rows b_i goes to the sums of c_ij b_i, worked out by solving anew.
                    expected = self.sums_of(f, rows, b)
                    self.assertTrue(after.target.same(after.value(h.value(x)), expected))

    def sums_of(self, f, rows, b):
        target = f.target.relations
        found = [(0,) * b.n for _ in target]
        for relation, row in zip(f.source.relations, rows):
            left = combined(relation, f.matrix, f.target.n)
            for j, other in enumerate(target):
                place = next(at for at, item in enumerate(other) if item != 0)
                many = left[place] // other[place]
                left = tuple(p - many * q for p, q in zip(left, other))
                found[j] = tuple(p + many * q for p, q in zip(found[j], row))
            self.assertFalse(any(left))
        return tuple(item for row in found for item in row)

    def test_tor_maps_follow_each_other(self):
        chance = seeded(39)
        b = Group(2, ((4, 0), (0, 6)))
        for f in some_maps(chance, 30):
            self.assertTrue(tor_map(identity_map(f.source), b) == identity_map(tor_group(f.source, b)))
            for g in (identity_map(f.target).scaled(3), zero_map(f.target, cyclic_group(4))):
                self.assertTrue(tor_map(f.then(g), b) == tor_map(f, b).then(tor_map(g, b)))
            # Another matrix of the same map gives the same map.
            shift = [sum_of_relations(f.target, chance) for _ in range(f.source.n)]
            other = Map(f.source, f.target, [add(x, y) for x, y in zip(f.matrix, shift)])
            self.assertTrue(tor_map(other, b) == tor_map(f, b))


def sum_of_relations(group, chance):
    found = (0,) * group.n
    for row in group.relations:
        found = add(found, scaled(row, chance.randint(-3, 3)))
    return found
