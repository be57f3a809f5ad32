"""Exact pairs, origins, lifts and extended maps (points 3.5 and 3.6)."""

from tests.helper import FINITE, GREAT, Case, all_maps, images_of, random_rows, seeded
from tests.test_maps import some_maps
from cyclebounds.exact import extended, is_exact, lifted, origin
from cyclebounds.group import Group, cyclic_group, free_group
from cyclebounds.maps import Map, group_of, identity_map, quotient_of, zero_map
from cyclebounds.rows import is_row

TINY = FINITE[:7]


class Exact(Case):
    def test_against_walks(self):
        for b in TINY[1:]:
            into, out = all_maps(TINY[4], b), all_maps(b, TINY[5])
            for f in into[:4]:
                for g in out[:6]:
                    values = set(images_of(f).values())
                    zeros = {x for x, y in images_of(g).items() if not any(y)}
                    self.assertIs(is_exact(f, g), values == zeros)

    def test_ends(self):
        for f in some_maps(seeded(27), 60):
            self.assertEqual(is_exact(zero_map(Group(0), f.source), f), f.is_one_to_one())
            self.assertEqual(is_exact(f, zero_map(f.target, Group(0))), f.is_onto())
            own, into = group_of(f.kernel())
            self.assertTrue(is_exact(into, f))
            self.assertTrue(is_exact(f, quotient_of(f.image())[1]))

    def test_by_hand(self):
        double, onto = Map(Group(1), Group(1), ((2,),)), Map(Group(1), cyclic_group(2), ((1,),))
        self.assertIs(is_exact(double, onto), True)
        self.assertIs(is_exact(double.scaled(2), onto), False)
        self.assertIs(is_exact(identity_map(Group(1)), onto), False)
        self.malformed(is_exact, double, zero_map(cyclic_group(2), Group(1)))

    def test_origin(self):
        f = Map(Group(2), Group(1), ((4,), (6,)))
        self.assertEqual(f.value(origin(f, (2,))), (2,))
        self.assertIsNone(origin(f, (3,)))
        self.assertEqual(origin(zero_map(Group(0), Group(1)), (0,)), ())
        self.assertIsNone(origin(zero_map(Group(0), Group(1)), (1,)))
        self.assertEqual(len(origin(zero_map(Group(2), Group(0)), ())), 2)
        for f in (f, identity_map(Group(0)), zero_map(Group(1), Group(2)), identity_map(cyclic_group(3))):
            self.malformed_unless_row(lambda y: origin(f, y), f.target.n)

    def test_origins_of_all(self):
        chance = seeded(28)
        for f in some_maps(chance, 100):
            for y in random_rows(chance, 4, f.target.n, 5):
                x = origin(f, y)
                self.assertEqual(x is not None, f.image().holds(y))
                if x is not None:
                    self.assertTrue(is_row(x, f.source.n))
                    self.assertTrue(f.target.same(f.value(x), y))


class Lifts(Case):
    def test_against_all_maps(self):
        for c in (TINY[2], TINY[4], TINY[5]):
            for b in TINY[1:]:
                for a in TINY[2:]:
                    candidates = all_maps(a, b)
                    for g in all_maps(b, c)[:4]:
                        known = [h.then(g) for h in candidates]
                        for f in all_maps(a, c):
                            self.check_lift(f, g, f in known)

    def check_lift(self, f, g, expected):
        h = lifted(f, g)
        self.assertEqual(h is not None, expected)
        if h is not None:
            self.assertEqual((h.source, h.target), (f.source, g.source))
            self.assertTrue(h.then(g) == f)

    def test_lifts_of_endless_ones(self):
        two = cyclic_group(2)
        onto = Map(Group(1), two, ((1,),))
        self.check_lift(identity_map(two), onto, False)
        self.check_lift(zero_map(two, two), onto, True)
        self.check_lift(Map(Group(3), two, ((1,), (0,), (GREAT,))), onto, True)
        self.check_lift(zero_map(Group(0), two), zero_map(Group(0), two), True)
        self.check_lift(identity_map(Group(0)), zero_map(Group(2), Group(0)), True)
        self.check_lift(Map(Group(1), Group(1), ((6,),)), Map(Group(2), Group(1), ((4,), (10,))), True)
        self.check_lift(Map(Group(1), Group(1), ((3,),)), Map(Group(2), Group(1), ((4,), (10,))), False)
        self.malformed(lifted, identity_map(two), identity_map(Group(1)))
        for g in some_maps(seeded(29), 50):
            for h in (zero_map(cyclic_group(4), g.source), identity_map(g.source)):
                self.check_lift(h.then(g), g, True)


class Extended(Case):
    def test_against_all_maps(self):
        for c in (TINY[2], TINY[4], TINY[5]):
            for b in TINY[1:]:
                for a in TINY[2:]:
                    candidates = all_maps(b, c)
                    for i in all_maps(a, b)[:4]:
                        known = [i.then(h) for h in candidates]
                        for f in all_maps(a, c):
                            self.check_extended(f, i, f in known)

    def check_extended(self, f, i, expected):
        h = extended(f, i)
        self.assertEqual(h is not None, expected)
        if h is not None:
            self.assertEqual((h.source, h.target), (i.target, f.target))
            self.assertTrue(i.then(h) == f)

    def test_extended_of_endless_ones(self):
        one = identity_map(Group(1))
        double = one.scaled(2)
        self.check_extended(one, double, False)
        self.check_extended(double, double, True)
        self.check_extended(Map(Group(1), cyclic_group(4), ((2,),)), double, True)
        self.check_extended(Map(Group(1), cyclic_group(4), ((1,),)), double, False)
        self.check_extended(Map(Group(1), cyclic_group(3), ((1,),)), double, True)
        self.check_extended(zero_map(Group(0), Group(1)), zero_map(Group(0), Group(2)), True)
        self.check_extended(one, zero_map(Group(1), Group(0)), False)
        self.check_extended(one, Map(Group(1), Group(2), ((4, 9),)), True)
        self.check_extended(one, Map(Group(1), Group(2), ((4, 6),)), False)
        self.malformed(extended, one, identity_map(cyclic_group(2)))
        for i in some_maps(seeded(30), 50):
            for h in (zero_map(i.target, cyclic_group(4)), identity_map(i.target)):
                self.check_extended(i.then(h), i, True)


class Great(Case):
    def test_forty_generators_end_soon(self):
        chance = seeded(31)
        rows = [tuple(6 * item for item in row) for row in random_rows(chance, 38, 40, 4)]
        group = Group(40, rows)
        f = identity_map(group).scaled(5)
        for h in (lifted(f, f), extended(f, f)):
            self.assertTrue(h.then(f) == f)
        self.assertIsNone(lifted(identity_map(group), identity_map(group).scaled(2)))
        free = identity_map(free_group(40))
        self.assertTrue(lifted(free, free) == free)
