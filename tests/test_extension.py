"""Extensions, sections and bars, extensions alike, new ones of old ones (points 5.1, 5.5 and 5.6)."""

from itertools import product

from tests.helper import FINITE, GREAT, ODD, Case, all_maps, random_rows, seeded
from tests.test_maps import ENDLESS, some_maps
from cyclebounds.ext import ext_class, ext_group, ext_pulled, ext_pushed, extension_of
from cyclebounds.extension import Extension, alike, baer_sum, pulled, pushed, section, split_bar
from cyclebounds.group import Group, are_isomorphic, cyclic_group, free_group
from cyclebounds.build import sum_of_groups
from cyclebounds.maps import Map, identity_map, zero_map
from cyclebounds.rows import add, dot, is_row, scaled, unit_matrix

TINY = (FINITE[0], FINITE[2], FINITE[3], FINITE[4], FINITE[7])
ALL = TINY + (FINITE[5], FINITE[8]) + ENDLESS


def some_classes(chance, count):
    """Pairs of groups and a row of Ext of them, of classes 0 and others."""
    for at in range(count):
        a, b = chance.choice(ALL), chance.choice(ALL)
        group = ext_group(a, b)
        row = random_rows(chance, 1, group.n, 5)[0]
        yield a, b, (0,) * group.n if at % 4 == 0 else row


def some_extensions(chance, count):
    for a, b, c in some_classes(chance, count):
        x = extension_of(a, b, c)
        yield disguised(chance, x) if x.middle().n < 40 and chance.randint(0, 1) else x


def disguised(chance, x):
    """The same extension with one more generator, a sum of multiples of those of the middle, in front of all."""
    old = x.middle()
    row = random_rows(chance, 1, old.n, 3)[0]
    middle = Group(old.n + 1, [(-1,) + row] + [(0,) + relation for relation in old.relations])
    ahead = Map(old, middle, [(0,) + unit for unit in unit_matrix(old.n)])
    back = Map(middle, old, (row,) + unit_matrix(old.n))
    return Extension(x.i.then(ahead), back.then(x.p))


def is_section(x, h):
    return h.source == x.last() and h.target == x.middle() and h.then(x.p) == identity_map(x.last())


def is_split_bar(x, found):
    """The words of point 5.5, worked out by sums of products."""
    k, e, t, m = found
    middle, last = x.middle(), x.last()
    return (
        type(found) is tuple and type(k) is int and k >= 1 and type(m) is int and m >= 2
        and is_row(e, middle.n) and is_row(t, middle.n) and last.is_zero(scaled(x.p.value(e), k))
        and all(dot(t, row) % m == 0 for row in middle.relations)
        and all(k * dot(t, row) % m == 0 for row in x.i.matrix) and k * dot(t, e) % m != 0)


def fits(x, y, h):
    """Whether h is a map of the middles that shows two extensions alike (point 5.1)."""
    return (h.source, h.target) == (x.middle(), y.middle()) and x.i.then(h) == y.i and h.then(y.p) == x.p


class Making(Case):
    def test_fields(self):
        i, p = Map(Group(1), Group(1), ((2,),)), Map(Group(1), cyclic_group(2), ((1,),))
        x = Extension(i, p)
        self.assertTrue(x.i is i and x.p is p)
        self.assertEqual((x.first(), x.middle(), x.last()), (Group(1), Group(1), cyclic_group(2)))

    def test_malformed(self):
        i, p = Map(Group(1), Group(1), ((2,),)), Map(Group(1), cyclic_group(2), ((1,),))
        for value in ODD:
            if not isinstance(value, Map):
                self.malformed(Extension, value, p)
                self.malformed(Extension, i, value)
                self.malformed(Extension, value, value)
        self.malformed(Extension, p, i)
        self.malformed(Extension, i, identity_map(Group(2)))
        self.malformed(Extension, zero_map(Group(1), Group(1)), zero_map(Group(0), Group(1)))
        # The groups have to be equal, an isomorphic one is not enough.
        self.malformed(Extension, zero_map(Group(0), Group(1, ((1,),))), identity_map(Group(0)))

    def test_not_exact(self):
        one, two, four = Group(1), cyclic_group(2), cyclic_group(4)
        onto = Map(one, two, ((1,),))
        self.refused("exact", Extension, Map(one, one, ((4,),)), onto)
        self.refused("exact", Extension, identity_map(one), onto)
        self.refused("exact", Extension, zero_map(one, one), onto)
        self.refused("exact", Extension, Map(four, two, ((1,),)), zero_map(two, Group(0)))
        self.refused("exact", Extension, zero_map(Group(0), two), Map(two, four, ((2,),)))
        self.refused("exact", Extension, zero_map(Group(0), two), zero_map(two, Group(0)))
        self.refused("exact", Extension, Map(two, four, ((2,),)), zero_map(four, two))

    def test_exactly_the_exact_pairs_are_extensions(self):
        for b, e, a in product((FINITE[2], FINITE[0]), (FINITE[4], FINITE[5], FINITE[2]), (FINITE[2], FINITE[0])):
            for i, p in product(all_maps(b, e), all_maps(e, a)):
                values = {i.value(x) for x in b.all_elements()}
                zeros = {x for x in e.all_elements() if not any(p.value(x))}
                if len(values) == b.order() and values == zeros and e.order() == b.order() * a.order():
                    self.assertEqual(Extension(i, p).middle(), e)
                else:
                    self.refused("exact", Extension, i, p)

    def test_groups_without_generators(self):
        nothing = Group(0)
        for group in ALL:
            x = Extension(identity_map(group), zero_map(group, nothing))
            y = Extension(zero_map(nothing, group), identity_map(group))
            self.assertEqual((x.first(), x.last(), y.first(), y.last()), (group, nothing, nothing, group))
            for z in (x, y):
                self.assertEqual(ext_class(z), (0,) * ext_group(z.last(), z.first()).n)
                self.assertTrue(is_section(z, section(z)))
                self.assertIsNone(split_bar(z))
                self.assertTrue(fits(z, z, alike(z, z)))
                self.assertTrue(fits(baer_sum(z, z), z, alike(baer_sum(z, z), z)))


class Sections(Case):
    def test_by_hand(self):
        two, four = cyclic_group(2), cyclic_group(4)
        x = Extension(Map(two, four, ((2,),)), Map(four, two, ((1,),)))
        self.assertIsNone(section(x))
        self.assertTrue(is_split_bar(x, split_bar(x)))
        self.assertEqual(split_bar(x)[0], 2)
        y = Extension(Map(Group(1), Group(1), ((GREAT,),)), Map(Group(1), cyclic_group(GREAT), ((1,),)))
        self.assertIsNone(section(y))
        self.assertTrue(is_split_bar(y, split_bar(y)))
        pair = sum_of_groups((two, four))
        z = Extension(Map(two, pair, ((1, 2),)), Map(pair, four, ((2,), (1,))))
        self.assertTrue(is_section(z, section(z)))
        self.assertIsNone(split_bar(z))

    def test_always_one_of_both(self):
        seen = []
        for x in some_extensions(seeded(40), 300):
            h, found = section(x), split_bar(x)
            self.assertNotEqual(h is None, found is None)
            self.assertTrue(is_section(x, h) if found is None else is_split_bar(x, found))
            self.assertEqual(h is None, any(ext_class(x)))
            if h is not None:
                self.assertTrue(are_isomorphic(x.middle(), sum_of_groups((x.last(), x.first()))))
            seen.append(h is None)
        self.assertGreater(seen.count(True), 30)
        self.assertGreater(seen.count(False), 30)

    def test_against_all_maps(self):
        for a, b in product((FINITE[2], FINITE[4], FINITE[7]), (FINITE[2], FINITE[3], FINITE[4])):
            for c in ext_group(a, b).all_elements():
                x = extension_of(a, b, c)
                walked = [h for h in all_maps(a, x.middle()) if h.then(x.p) == identity_map(a)]
                self.assertEqual(section(x) is None, not walked)

    def test_endless_ends(self):
        for n in (1, 3):
            for b in ALL:
                x = extension_of(free_group(n), b, ())
                self.assertTrue(is_section(x, section(x)))
                self.assertIsNone(split_bar(x))


class Alike(Case):
    def test_exactly_if_the_classes_are_equal(self):
        chance = seeded(41)
        seen = []
        for a, b, c in some_classes(chance, 200):
            group = ext_group(a, b)
            other = add(c, random_rows(chance, 1, group.n, 1)[0]) if chance.randint(0, 1) else c
            x, y = disguised(chance, extension_of(a, b, c)), extension_of(a, b, group.normal(other))
            h = alike(x, y)
            self.assertEqual(h is not None, group.same(c, other))
            seen.append(h is None)
            if h is not None:
                self.assertTrue(fits(x, y, h))
                self.assertTrue(fits(y, x, h.inverse()))
        self.assertGreater(seen.count(True), 15)
        self.assertGreater(seen.count(False), 15)

    def test_against_all_maps(self):
        for a, b in product((FINITE[2], FINITE[4]), (FINITE[2], FINITE[4])):
            found = [extension_of(a, b, c) for c in ext_group(a, b).all_elements()]
            for x, y in product(found, repeat=2):
                walked = [h for h in all_maps(x.middle(), y.middle()) if fits(x, y, h)]
                self.assertEqual(alike(x, y) is None, not walked)

    def test_isomorphic_middles_of_unlike_extensions(self):
        three = cyclic_group(3)
        x, y = extension_of(three, three, (1,)), extension_of(three, three, (2,))
        self.assertTrue(are_isomorphic(x.middle(), y.middle()))
        self.assertIsNone(alike(x, y))

    def test_many_generators(self):
        # No product of numbers of generators is asked for here: 40 at each end are not refused.
        bare = list(unit_matrix(40))
        a = Group(40, [scaled(bare[0], 4)] + bare[2:])
        b = Group(40, [scaled(bare[39], 6)] + bare[1:39])
        middle = Group(3, ((4, 0, -3), (0, 0, 6)))
        i = Map(b, Group(4, [row + (0,) for row in middle.relations]), ((0, 0, 0, 1),) + ((0,) * 4,) * 38 + ((0, 0, 1, 0),))
        p = Map(i.target, a, (bare[0], bare[1], (0,) * 40, (0,) * 40))
        x = Extension(i, p)
        self.assertTrue(fits(x, x, alike(x, x)))
        self.assertIsNone(section(x))
        self.assertTrue(is_split_bar(x, split_bar(x)))
        self.refused("large", ext_class, x)

    def test_unlike_ends(self):
        two, four = cyclic_group(2), cyclic_group(4)
        x = extension_of(two, two, (1,))
        for y in (extension_of(two, four, (1,)), extension_of(four, two, (1,)), extension_of(Group(0), two, ()),
                  extension_of(Group(1, ((2,),)), Group(2, ((2, 0), (0, 1))), (1, 0))):
            for call in (alike, baer_sum):
                self.malformed(call, x, y)
                self.malformed(call, y, x)


class NewOnes(Case):
    def test_pulled(self):
        chance = seeded(42)
        many = 0
        maps = [f for f in some_maps(chance, 250)]
        for x in some_extensions(chance, 120):
            for f in [f for f in maps if f.target == x.last()][:2]:
                many += 1
                y, across = pulled(x, f)
                self.assertEqual((y.first(), y.last()), (x.first(), f.source))
                self.assertEqual((across.source, across.target), (y.middle(), x.middle()))
                self.assertTrue(y.i.then(across) == x.i)
                self.assertTrue(across.then(x.p) == y.p.then(f))
                self.assertEqual(ext_class(y), ext_pulled(f, x.first()).value(ext_class(x)))
        self.assertGreater(many, 100)

    def test_pushed(self):
        chance = seeded(43)
        many = 0
        maps = [f for f in some_maps(chance, 250)]
        for x in some_extensions(chance, 120):
            for g in [g for g in maps if g.source == x.first()][:2]:
                many += 1
                y, across = pushed(x, g)
                self.assertEqual((y.first(), y.last()), (g.target, x.last()))
                self.assertEqual((across.source, across.target), (x.middle(), y.middle()))
                self.assertTrue(x.i.then(across) == g.then(y.i))
                self.assertTrue(across.then(y.p) == x.p)
                self.assertEqual(ext_class(y), ext_pushed(x.last(), g).value(ext_class(x)))
        self.assertGreater(many, 100)

    def test_by_hand(self):
        # Of the integers by twice them: by the map of 0 the sum, by the identity itself.
        two = cyclic_group(2)
        x = Extension(Map(Group(1), Group(1), ((2,),)), Map(Group(1), two, ((1,),)))
        y, _ = pulled(x, zero_map(two, two))
        self.assertIsNotNone(section(y))
        y, _ = pulled(x, identity_map(two))
        self.assertIsNotNone(alike(x, y))
        y, _ = pushed(x, Map(Group(1), two, ((1,),)))
        self.assertEqual(y.middle().invariants(), ((4,), 0))
        y, _ = pushed(x, Map(Group(1), Group(1), ((3,),)))
        self.assertEqual(y.middle().invariants(), ((), 1))
        y, _ = pushed(x, zero_map(Group(1), Group(0)))
        self.assertEqual(y.middle().invariants(), ((2,), 0))

    def test_baer_sums(self):
        chance = seeded(44)
        for a, b, c in some_classes(chance, 100):
            group = ext_group(a, b)
            d = random_rows(chance, 1, group.n, 5)[0]
            x, y = extension_of(a, b, c), disguised(chance, extension_of(a, b, d))
            z = baer_sum(x, y)
            self.assertEqual((z.first(), z.last()), (b, a))
            self.assertEqual(ext_class(z), group.normal(add(c, d)))
            # Minus the class is the class with minus i: the sum of both splits.
            turned = Extension(-x.i, x.p)
            self.assertEqual(ext_class(turned), group.normal(scaled(c, -1)))
            self.assertIsNotNone(section(baer_sum(x, turned)))

    def test_malformed_and_large(self):
        one, wide = Group(1), free_group(39)
        x = Extension(zero_map(Group(0), one), identity_map(one))
        y = Extension(zero_map(Group(0), wide), identity_map(wide))
        z = Extension(identity_map(wide), zero_map(wide, Group(0)))
        self.assertEqual(pulled(y, zero_map(one, wide))[0].last(), one)
        self.assertEqual(pulled(x, zero_map(wide, one))[0].last(), wide)
        self.assertEqual(pushed(z, zero_map(wide, one))[0].first(), one)
        self.refused("large", pulled, y, zero_map(Group(2), wide))
        self.refused("large", pulled, x, zero_map(free_group(40), one))
        self.refused("large", pushed, z, zero_map(wide, Group(2)))
        self.malformed(pulled, y, zero_map(wide, Group(2)))
        self.malformed(pulled, y, zero_map(free_group(40), one))
        self.malformed(pushed, z, zero_map(one, free_group(40)))
        self.malformed(pushed, z, zero_map(free_group(2), wide))

    def test_sums_of_middles(self):
        half, more = free_group(20), Group(21, ((1,) + (0,) * 20,))
        x = Extension(zero_map(Group(0), half), identity_map(half))
        y = Extension(zero_map(Group(0), more), Map(more, half, ((0,) * 20,) + unit_matrix(20)))
        self.assertEqual(baer_sum(x, x).last(), half)
        self.refused("large", baer_sum, x, y)
        self.refused("large", baer_sum, y, x)
        self.malformed(baer_sum, y, Extension(zero_map(Group(0), more), identity_map(more)))
        self.malformed(baer_sum, x, extension_of(half, Group(1), ()))
        self.malformed(baer_sum, extension_of(half, Group(1), ()), y)
