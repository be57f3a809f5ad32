"""Maps of groups, kernels, images, subgroups as groups, standard groups (points 3.1 to 3.4)."""

from itertools import product

from tests.helper import (
    FINITE, GREAT, ODD, Case, all_maps, combined, images_of, members, plainly_rows, plus, random_rows, seeded)
from cyclebounds.group import Group, are_isomorphic, cyclic_group, free_group
from cyclebounds.maps import (
    Map, group_of, identity_map, isomorphism, quotient_of, standard_group, zero_map)
from cyclebounds.rows import coordinates, scaled, unit_matrix
from cyclebounds.subgroup import Subgroup, annulled, whole, zero

SMALL = FINITE[:8]
ENDLESS = (Group(1), Group(2), Group(2, ((4, 6),)), Group(3, ((2, 0, 0), (0, 6, 3))), free_group(0))


def some_maps(chance, count):
    """Maps between finite and endless groups, made of maps of standard groups."""
    groups = SMALL + ENDLESS
    for _ in range(count):
        a, b = chance.choice(groups), chance.choice(groups)
        standard, ahead, _ = standard_group(a)
        rows = []
        for generator in unit_matrix(standard.n):
            chosen = annulled(b, standard.order_of(generator)).rows
            items = [chance.randint(-3, 3) for _ in chosen]
            rows.append(combined(items, chosen, b.n))
        yield ahead.then(Map(standard, b, rows))


class Making(Case):
    def test_fields(self):
        f = Map(cyclic_group(4), cyclic_group(6), [[9]])
        self.assertEqual(f.source, cyclic_group(4))
        self.assertEqual(f.target, cyclic_group(6))
        self.assertEqual(f.matrix, ((9,),))
        self.assertEqual(Map(Group(0), Group(3), []).matrix, ())
        self.assertEqual(Map(Group(2), Group(0), ([], ())).matrix, ((), ()))

    def test_malformed(self):
        for value in ODD:
            if not isinstance(value, Group):
                self.malformed(Map, value, Group(1), ((1,),))
                self.malformed(Map, Group(1), value, ((1,),))
                self.malformed(Map, value, value, None)
        for source, target in product((Group(0), Group(1), Group(2)), repeat=2):
            for matrix in ODD:
                if plainly_rows(matrix, target.n) and len(matrix) == source.n:
                    self.assertIsInstance(Map(source, target, matrix), Map)
                else:
                    self.malformed(Map, source, target, matrix)

    def test_relations_come_behind_malformed(self):
        two = cyclic_group(2)
        self.refused("relations", Map, two, Group(1), ((1,),))
        self.refused("relations", Map, two, cyclic_group(4), [[1]])
        self.refused("relations", Map, cyclic_group(GREAT), cyclic_group(GREAT + 1), ((1,),))
        self.assertEqual(Map(two, cyclic_group(4), ((2,),)).value((1,)), (2,))
        self.malformed(Map, two, Group(1), ((True,),))
        self.malformed(Map, two, Group(1), ((1, 0),))
        self.malformed(Map, two, Group(1), ((1,), (1,)))

    def test_equality(self):
        f = Map(cyclic_group(4), cyclic_group(6), ((3,),))
        self.assertTrue(f == Map(cyclic_group(4), cyclic_group(6), ((-3,),)))
        self.assertFalse(f == Map(cyclic_group(4), cyclic_group(6), ((0,),)))
        self.assertFalse(f == Map(cyclic_group(2), cyclic_group(6), ((3,),)))
        self.assertFalse(f == Map(cyclic_group(4), cyclic_group(12), ((3,),)))
        self.assertTrue(f != Map(cyclic_group(4), cyclic_group(6), ((0,),)))
        for value in ODD:
            self.assertIs(f == value, False)

    def test_equal_exactly_if_the_values_are(self):
        for a, b in ((SMALL[7], SMALL[4]), (SMALL[5], SMALL[6]), (SMALL[0], SMALL[3])):
            found = all_maps(a, b)
            for f in found:
                self.assertEqual([g == f for g in found].count(True), 1)
                lifted = Map(a, b, [tuple(item + 12 * (j + 1) for j, item in enumerate(row)) for row in f.matrix])
                self.assertEqual(lifted == f, images_of(lifted) == images_of(f))


class Values(Case):
    def test_value(self):
        f = Map(cyclic_group(4), cyclic_group(6), ((3,),))
        self.assertEqual([f.value((k,)) for k in (0, 1, 2, 3, -1, GREAT)], [(0,), (3,), (0,), (3,), (3,), (3,)])
        self.assertEqual(zero_map(Group(0), Group(2)).value(()), (0, 0))
        self.assertEqual(zero_map(Group(2), Group(0)).value((1, 5)), ())
        for f in (zero_map(Group(0), Group(1)), identity_map(cyclic_group(3)), zero_map(Group(2), Group(1))):
            self.malformed_unless_row(f.value, f.source.n)

    def test_values_keep_sums(self):
        for a in SMALL[2:]:
            for f in all_maps(a, SMALL[4])[:6]:
                images = images_of(f)
                for x in images:
                    for y in images:
                        self.assertEqual(images[plus(a, x, y)], plus(f.target, images[x], images[y]))

    def test_operators(self):
        for a, b in ((SMALL[4], SMALL[6]), (SMALL[5], SMALL[5]), (SMALL[1], SMALL[3])):
            found = all_maps(a, b)[:8]
            for f in found:
                for x in a.all_elements():
                    self.assertEqual((-f).value(x), b.normal(scaled(f.value(x), -1)))
                    self.assertEqual(f.scaled(-5).value(x), b.normal(scaled(f.value(x), -5)))
                    for g in found:
                        self.assertEqual((f + g).value(x), plus(b, f.value(x), g.value(x)))
                        self.assertEqual((f - g).value(x), plus(b, f.value(x), scaled(g.value(x), -1)))

    def test_matrices_of_operators(self):
        f, g = Map(Group(1), cyclic_group(6), ((5,),)), Map(Group(1), cyclic_group(6), ((-4,),))
        self.assertEqual((f + g).matrix, ((1,),))
        self.assertEqual((f - g).matrix, ((9,),))
        self.assertEqual((-f).matrix, ((-5,),))
        self.assertEqual(f.scaled(GREAT).matrix, ((5 * GREAT,),))
        self.assertEqual(f.scaled(0), zero_map(Group(1), cyclic_group(6)))
        self.assertEqual(f.then(Map(cyclic_group(6), cyclic_group(2), ((3,),))).matrix, ((15,),))

    def test_operators_malformed(self):
        f = zero_map(cyclic_group(2), cyclic_group(4))
        for g in (zero_map(cyclic_group(4), cyclic_group(4)), zero_map(cyclic_group(2), cyclic_group(2))):
            self.malformed(lambda: f + g)
            self.malformed(lambda: f - g)
        self.malformed(f.then, zero_map(cyclic_group(2), cyclic_group(4)))
        self.malformed(f.then, zero_map(Group(2), cyclic_group(4)))

    def test_then(self):
        for b in SMALL[1:6]:
            for f in all_maps(SMALL[4], b):
                for g in all_maps(b, SMALL[6])[:5]:
                    self.assertEqual(images_of(f.then(g)), {x: g.value(y) for x, y in images_of(f).items()})

    def test_identity_and_zero(self):
        for g in FINITE + ENDLESS:
            self.assertEqual(identity_map(g).matrix, unit_matrix(g.n))
            self.assertTrue(identity_map(g).inverse() == identity_map(g))
            self.assertEqual(zero_map(g, Group(2)).matrix, ((0, 0),) * g.n)
            self.assertTrue(zero_map(g, Group(2)).is_zero())


class Kernels(Case):
    def test_by_hand(self):
        f = Map(cyclic_group(4), cyclic_group(6), ((3,),))
        self.assertEqual(f.kernel().rows, ((2,),))
        self.assertEqual(f.image().index(), 3)
        g = Map(Group(2), Group(1), ((4,), (6,)))
        self.assertEqual(g.kernel().rows, ((3, -2),))
        self.assertEqual(g.image().rows, ((2,),))
        self.assertEqual(zero_map(Group(0), Group(2)).kernel(), whole(Group(0)))
        self.assertEqual(zero_map(Group(2), Group(0)).kernel(), whole(Group(2)))
        self.assertEqual(zero_map(Group(2), Group(0)).image(), whole(Group(0)))

    def test_against_walks(self):
        for a in SMALL:
            for b in SMALL:
                for f in all_maps(a, b)[:12]:
                    images = images_of(f)
                    zeros = {x for x in images if not any(images[x])}
                    values = set(images.values())
                    self.assertEqual(members(f.kernel()), zeros)
                    self.assertEqual(members(f.image()), values)
                    self.assertEqual(f.kernel().index(), len(values))
                    self.assertIs(f.is_zero(), len(values) == 1)
                    self.assertIs(f.is_one_to_one(), len(zeros) == 1)
                    self.assertIs(f.is_onto(), len(values) == b.order())
                    self.check_inverse(f, len(zeros) == 1 and len(values) == b.order())

    def check_inverse(self, f, expected):
        if expected:
            back = f.inverse()
            self.assertTrue(f.then(back) == identity_map(f.source))
            self.assertTrue(back.then(f) == identity_map(f.target))
        else:
            self.refused("inverse", f.inverse)

    def test_endless(self):
        for f in some_maps(seeded(24), 150):
            into_zero = f.source.n == 0 or f.image() == zero(f.target)
            self.assertEqual(f.is_zero(), into_zero)
            self.assertEqual(f.is_zero(), f == zero_map(f.source, f.target))
            self.assertEqual(f.is_one_to_one(), f.kernel() == zero(f.source))
            self.assertEqual(f.is_onto(), f.image() == whole(f.target))
            self.check_inverse(f, f.is_one_to_one() and f.is_onto())
            for row in f.kernel().rows:
                self.assertTrue(f.target.is_zero(f.value(row)))

    def test_inverses_by_hand(self):
        double = Map(Group(1), Group(1), ((2,),))
        self.assertIs(double.is_one_to_one(), True)
        self.assertIs(double.is_onto(), False)
        self.refused("inverse", double.inverse)
        f = Map(cyclic_group(6), Group(2, ((2, 0), (0, 3))), ((1, 1),))
        self.check_inverse(f, True)
        self.check_inverse(Map(Group(1), Group(2, ((3, 1),)), ((1, 0),)), True)
        self.check_inverse(zero_map(Group(0), cyclic_group(1)), True)
        self.check_inverse(Map(Group(2), Group(2), ((GREAT, GREAT + 1), (1, 1))), True)


class Own(Case):
    def check_group_of(self, part):
        own, into = group_of(part)
        self.assertEqual(own.n, len(part.rows))
        self.assertEqual(own, Group(own.n, [coordinates(part.rows, row) for row in part.group.relations]))
        self.assertEqual((into.source, into.target, into.matrix), (own, part.group, part.rows))
        self.assertTrue(into.is_one_to_one())
        self.assertEqual(into.image(), part)
        onto_group, onto = quotient_of(part)
        self.assertEqual(onto_group, Group(part.group.n, part.rows))
        self.assertEqual((onto.source, onto.target, onto.matrix), (part.group, onto_group, unit_matrix(part.group.n)))
        self.assertTrue(onto.is_onto())
        self.assertEqual(onto.kernel(), part)
        self.assertEqual(onto_group.order(), part.index())

    def test_group_of_and_quotient_of(self):
        chance = seeded(25)
        for group in FINITE + ENDLESS:
            for part in (zero(group), whole(group)):
                self.check_group_of(part)
            for _ in range(5):
                self.check_group_of(Subgroup(group, random_rows(chance, 2, group.n, 6)))

    def test_by_hand(self):
        own, into = group_of(Subgroup(cyclic_group(12), [(4,)]))
        self.assertEqual((own.relations, into.matrix), (((3,),), ((4,),)))
        self.assertEqual(group_of(zero(cyclic_group(12)))[0].relations, ((1,),))
        self.assertEqual(group_of(zero(Group(3)))[0], Group(0))
        self.assertEqual(quotient_of(Subgroup(Group(2), [(2, 3)]))[0], Group(2, ((2, 3),)))


class Standard(Case):
    def check(self, group):
        standard, ahead, back = standard_group(group)
        divisors, rank = group.invariants()
        n = len(divisors) + rank
        self.assertEqual(standard, Group(n, [scaled(unit_matrix(n)[i], d) for i, d in enumerate(divisors)]))
        self.assertEqual((ahead.source, ahead.target), (group, standard))
        self.assertEqual((back.source, back.target), (standard, group))
        self.assertTrue(ahead.then(back) == identity_map(group))
        self.assertTrue(back.then(ahead) == identity_map(standard))

    def test_standard_groups(self):
        for group in FINITE + ENDLESS + (Group(40), Group(2, ((GREAT, 1), (0, GREAT * 6)))):
            self.check(group)
        chance = seeded(26)
        for _ in range(80):
            n = chance.randint(0, 5)
            rows = [scaled(row, chance.choice((1, 2, 6))) for row in random_rows(chance, chance.randint(0, 6), n, 5)]
            self.check(Group(n, rows))
        self.check(Group(20, [scaled(row, 6) for row in random_rows(chance, 18, 20, 5)]))

    def test_isomorphism(self):
        groups = FINITE + ENDLESS + (Group(2, ((3, 1),)), Group(2, ((2, 0),)), cyclic_group(6))
        for a in groups:
            for b in groups:
                f = isomorphism(a, b)
                self.assertEqual(f is not None, are_isomorphic(a, b))
                if f is not None:
                    self.assertEqual((f.source, f.target), (a, b))
                    self.assertTrue(f.then(f.inverse()) == identity_map(a))

    def test_isomorphic_finite_groups_have_such_a_map_among_all(self):
        for a in SMALL:
            for b in SMALL:
                if a.order() == b.order():
                    known = any(f.is_one_to_one() for f in all_maps(a, b))
                    self.assertEqual(isomorphism(a, b) is not None, known)
