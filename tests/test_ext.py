"""Groups Ext, classes, extensions of classes, and middles (points 5.2 to 5.4, 5.6 and 5.8)."""

from itertools import product

from tests.helper import FINITE, GREAT, Case, combined, plus, random_rows, seeded
from tests.test_extension import ALL, TINY, disguised, some_classes
from tests.test_maps import some_maps
from cyclebounds.build import sum_of_groups
from cyclebounds.exact import origin
from cyclebounds.ext import ext_class, ext_group, ext_pulled, ext_pushed, extension_of, middles
from cyclebounds.extension import alike, pulled, pushed, section
from cyclebounds.group import Group, are_isomorphic, cyclic_group, free_group
from cyclebounds.maps import Map, identity_map, quotient_of, zero_map
from cyclebounds.rows import add, scaled, span, unit_matrix, unit_row
from cyclebounds.smith import divisors
from cyclebounds.subgroup import multiples


def written_ext(a, b):
    """Ext as point 5.2 writes it, relation by relation."""
    k, m = len(a.relations), b.n
    rows = []
    for i in range(k):
        for s in b.relations:
            rows.append((0,) * (i * m) + s + (0,) * ((k - 1 - i) * m))
    for c in range(a.n):
        for j in range(m):
            row = [0] * (k * m)
            for i in range(k):
                row[i * m + j] = a.relations[i][c]
            rows.append(tuple(row))
    return k * m, span(rows, k * m)


class Groups(Case):
    def test_by_hand(self):
        self.assertEqual(ext_group(cyclic_group(4), cyclic_group(6)).relations, ((2,),))
        self.assertEqual(ext_group(cyclic_group(4), Group(1)), cyclic_group(4))
        self.assertEqual(ext_group(Group(1), cyclic_group(4)), Group(0))
        self.assertEqual(ext_group(Group(0), cyclic_group(4)), Group(0))
        self.assertEqual(ext_group(cyclic_group(4), Group(0)), Group(0))
        a = Group(2, ((2, 1), (0, 3)))
        # The items of both generators at the relations are 2, 0 and 1, 3.
        self.assertEqual(ext_group(a, Group(1)), Group(2, ((2, 0), (1, 3))))
        self.assertEqual(ext_group(a, Group(2)), Group(4, ((2, 0, 0, 0), (0, 2, 0, 0), (1, 0, 3, 0), (0, 1, 0, 3))))
        self.assertEqual(ext_group(cyclic_group(GREAT), Group(1)).order(), GREAT)

    def test_relations(self):
        for a, b in product(ALL, ALL):
            group = ext_group(a, b)
            self.assertEqual((group.n, group.relations), written_ext(a, b))
            parts = [quotient_of(multiples(b, s))[0] for s in divisors(a.relations, a.n)]
            self.assertTrue(are_isomorphic(group, sum_of_groups(parts)))
            self.assertGreaterEqual(group.order(), 1)

    def test_large(self):
        for n, m in ((40, 1), (1, 40), (5, 8), (20, 2), (0, 40), (40, 0)):
            a, b = Group(n, [scaled(row, 2) for row in unit_matrix(n)]), Group(m, ((2,) + (0,) * (m - 1),) if m else ())
            self.assertEqual(ext_group(a, b).n, n * m)
            self.assertTrue(ext_pulled(identity_map(a), b) == identity_map(ext_group(a, b)))
            self.assertTrue(ext_pushed(a, identity_map(b)) == identity_map(ext_group(a, b)))
        for n, m in ((6, 7), (40, 2), (3, 14), (40, 40)):
            a, b, one = free_group(n), free_group(m), Group(1)
            self.refused("large", ext_group, a, b)
            for c in ((), None, (0,) * (n * m)):
                self.refused("large", extension_of, a, b, c)
            self.refused("large", middles, a, b)
            self.refused("large", ext_pulled, zero_map(a, one), b)
            self.refused("large", ext_pulled, zero_map(one, a), b)
            self.refused("large", ext_pushed, a, zero_map(b, one))
            self.refused("large", ext_pushed, a, zero_map(one, b))
            nothing = extension_of(Group(0), b, ())
            self.assertEqual(ext_class(nothing), ())
        x = extension_of(free_group(5), free_group(8), ())
        self.assertEqual(ext_class(x), ())


class Classes(Case):
    def test_by_hand(self):
        two = cyclic_group(2)
        x = extension_of(two, two, (1,))
        self.assertEqual(x.middle(), Group(2, ((2, -1), (0, 2))))
        self.assertEqual((x.i.matrix, x.p.matrix), (((0, 1),), ((1,), (0,))))
        self.assertEqual(x.middle().invariants(), ((4,), 0))
        self.assertEqual(ext_class(x), (1,))
        self.assertEqual(ext_class(extension_of(two, two, (0,))), (0,))
        # The row that is handed in makes the middle, not the normal one.
        y = extension_of(two, Group(1), (5,))
        self.assertEqual(y.middle(), Group(2, ((2, -5),)))
        self.assertEqual(ext_class(y), (1,))

    def test_told_middle_and_matrices(self):
        for a, b, c in some_classes(seeded(45), 150):
            x = extension_of(a, b, c)
            rows = [c[i * b.n:(i + 1) * b.n] for i in range(len(a.relations))]
            ahead = [relation + tuple(-item for item in row) for relation, row in zip(a.relations, rows)]
            self.assertEqual(x.middle(), Group(a.n + b.n, ahead + [(0,) * a.n + row for row in b.relations]))
            self.assertEqual((x.first(), x.last()), (b, a))
            self.assertEqual(x.i.matrix, tuple(unit_row(a.n + b.n, a.n + j) for j in range(b.n)))
            self.assertEqual(x.p.matrix, unit_matrix(a.n) + ((0,) * a.n,) * b.n)
            self.assertEqual(ext_class(x), ext_group(a, b).normal(c))

    def test_any_choice_gives_the_class(self):
        chance = seeded(46)
        for a, b, c in some_classes(chance, 100):
            x = disguised(chance, extension_of(a, b, c))
            middle, found = x.middle(), ()
            shifts = random_rows(chance, a.n, b.n, 4)
            chosen = [add(origin(x.p, row), x.i.value(shift)) for row, shift in zip(unit_matrix(a.n), shifts)]
            for relation in a.relations:
                found = found + origin(x.i, combined(relation, chosen, middle.n))
            self.assertEqual(ext_class(x), ext_group(a, b).normal(found))

    def test_all_classes_are_unlike(self):
        for a, b in ((FINITE[2], FINITE[5]), (FINITE[8], FINITE[4]), (FINITE[3], Group(1)), (FINITE[4], FINITE[8])):
            found = [extension_of(a, b, c) for c in ext_group(a, b).all_elements()]
            for x, y in product(found[:8], repeat=2):
                self.assertEqual(alike(x, y) is not None, x is y)
            splitting = [x for x in found if section(x) is not None]
            self.assertEqual(splitting, found[:1])

    def test_wrong_rows(self):
        for a, b in ((cyclic_group(2), cyclic_group(2)), (Group(1), cyclic_group(2)), (Group(2, ((2, 1), (0, 3))), Group(1)),
                     (cyclic_group(3), Group(3))):
            self.malformed_unless_row(lambda c: extension_of(a, b, c), len(a.relations) * b.n)

    def test_sums_of_numbers_of_generators(self):
        a, b = Group(39, ((2,) + (0,) * 38,)), Group(40, ((2,) + (0,) * 39,))
        one = cyclic_group(2)
        self.assertEqual(extension_of(a, one, (1,)).middle().n, 40)
        self.assertEqual(extension_of(one, a, (1,) + (0,) * 38).middle().n, 40)
        self.refused("large", extension_of, b, one, (1,))
        self.refused("large", extension_of, one, b, (0,) * 40)
        # A wrong row is looked at before the sum, behind the product.
        self.malformed(extension_of, b, one, (1, 0))
        self.malformed(extension_of, one, b, None)
        self.refused("large", extension_of, b, Group(2), None)


class Followed(Case):
    def test_pulled_by_classes(self):
        chance = seeded(47)
        for f in some_maps(chance, 100):
            b = chance.choice(TINY)
            h = ext_pulled(f, b)
            self.assertEqual((h.source, h.target), (ext_group(f.target, b), ext_group(f.source, b)))
            for x in [unit_row(h.source.n, i) for i in range(h.source.n)]:
                self.assertEqual(h.value(x), ext_class(pulled(extension_of(f.target, b, x), f)[0]))

    def test_pushed_by_classes(self):
        chance = seeded(48)
        for g in some_maps(chance, 100):
            a = chance.choice(TINY)
            h = ext_pushed(a, g)
            self.assertEqual((h.source, h.target), (ext_group(a, g.source), ext_group(a, g.target)))
            for x in [unit_row(h.source.n, i) for i in range(h.source.n)]:
                self.assertEqual(h.value(x), ext_class(pushed(extension_of(a, g.source, x), g)[0]))

    def test_maps_follow_each_other(self):
        chance = seeded(49)
        b = Group(2, ((4, 0), (0, 6)))
        for f in some_maps(chance, 30):
            g = identity_map(f.target).scaled(3)
            self.assertTrue(ext_pulled(f.then(g), b) == ext_pulled(g, b).then(ext_pulled(f, b)))
            self.assertTrue(ext_pushed(b, f.then(g)) == ext_pushed(b, f).then(ext_pushed(b, g)))
            self.assertTrue(ext_pulled(f + f, b) == ext_pulled(f, b).scaled(2))
            self.assertTrue(ext_pushed(b, f + f) == ext_pushed(b, f).scaled(2))

    def test_by_hand(self):
        four, two = cyclic_group(4), cyclic_group(2)
        # The relation 4 goes to 4 by 1, to twice 2; so the class c of 2 goes to 2 c.
        self.assertEqual(ext_pulled(Map(four, two, ((1,),)), Group(1)).matrix, ((2,),))
        self.assertEqual(ext_pulled(Map(two, four, ((2,),)), Group(1)).value((1,)), (1,))
        self.assertEqual(ext_pushed(four, Map(Group(1), two, ((3,),))).value((1,)), (1,))


class Middles(Case):
    def test_by_hand(self):
        two, three, four = cyclic_group(2), cyclic_group(3), cyclic_group(4)
        self.assertEqual(middles(three, three), ((((3, 3), 0), 1), (((9,), 0), 2)))
        self.assertEqual(middles(two, three), ((((6,), 0), 1),))
        self.assertEqual(middles(four, two), ((((2, 4), 0), 1), (((8,), 0), 1)))
        self.assertEqual(middles(two, Group(1)), ((((), 1), 1), (((2,), 1), 1)))
        self.assertEqual(middles(four, Group(1)), ((((), 1), 2), (((2,), 1), 1), (((4,), 1), 1)))
        self.assertEqual(middles(four, four), ((((2, 8), 0), 1), (((4, 4), 0), 1), (((16,), 0), 2)))
        self.assertEqual(middles(Group(2), four), ((((4,), 2), 1),))
        self.assertEqual(middles(Group(0), Group(0)), ((((), 0), 1),))
        self.assertEqual(middles(Group(0), four), ((((4,), 0), 1),))

    def test_against_walks(self):
        for a, b in product(ALL, ALL):
            group = ext_group(a, b)
            if group.order() <= 64:
                self.assertEqual(middles(a, b), self.walked(a, b, group))

    def walked(self, a, b, group):
        found = {}
        for c in group.all_elements():
            told = extension_of(a, b, c).middle().invariants()
            found[told] = found.get(told, 0) + 1
        return tuple(sorted(found.items()))

    def test_some_other_groups(self):
        chance = seeded(50)
        for _ in range(60):
            a, b = (Group(n, random_rows(chance, chance.randint(0, n), n, 6)) for n in (2, 2))
            group = ext_group(a, b)
            if group.order() <= 100:
                self.assertEqual(middles(a, b), self.walked(a, b, group))

    def test_many_classes(self):
        self.assertEqual(sum(count for _, count in middles(cyclic_group(2000), cyclic_group(2000))), 2000)
        self.refused("many", middles, cyclic_group(2001), cyclic_group(2001))
        self.refused("many", middles, cyclic_group(2001), Group(1))
        bits = sum_of_groups([cyclic_group(2)] * 10)
        self.assertEqual(middles(cyclic_group(2), bits), ((((2,) * 11, 0), 1), (((2,) * 9 + (4,), 0), 1023)))
        self.refused("many", middles, cyclic_group(2), sum_of_groups([bits, cyclic_group(2)]))
        self.assertEqual(middles(cyclic_group(2001), cyclic_group(2000)), ((((4002000,), 0), 1),))

    def test_sums_of_numbers_of_generators(self):
        wide = sum_of_groups([cyclic_group(2)] * 10 + [cyclic_group(3)] * 29)
        self.assertEqual(middles(cyclic_group(2), wide),
                         ((((3,) * 19 + (6,) * 9 + (12,), 0), 1023), (((3,) * 18 + (6,) * 11, 0), 1)))
        self.assertEqual(middles(wide, cyclic_group(2)), middles(cyclic_group(2), wide))
        self.assertEqual(middles(free_group(39), cyclic_group(2)), ((((2,), 39), 1),))
        self.refused("large", middles, free_group(40), cyclic_group(2))
        self.refused("large", middles, cyclic_group(2), free_group(40))
        # There would be too many classes as well.
        self.refused("large", middles, cyclic_group(4000), free_group(40))
        self.refused("many", middles, cyclic_group(4000), free_group(39))

    def test_classes_of_one_middle(self):
        # Twice the class of an extension of 9 elements has the same middle, the class 0 has another one.
        three = cyclic_group(3)
        group = ext_group(three, three)
        for c in group.all_elements():
            other = plus(group, c, c)
            one, two = extension_of(three, three, c), extension_of(three, three, other)
            self.assertTrue(are_isomorphic(one.middle(), two.middle()))
            self.assertEqual(alike(one, two) is None, any(c))
