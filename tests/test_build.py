"""Sums of groups, pullbacks and pushouts (points 4.1 to 4.3)."""

from tests.helper import FINITE, GREAT, Case, all_maps, images_of, members, seeded
from tests.test_maps import ENDLESS, some_maps
from cyclebounds.build import (
    into_pullback, into_sum, out_of_pushout, out_of_sum, pullback, pushout, sum_of_groups)
from cyclebounds.group import Group, cyclic_group, free_group
from cyclebounds.maps import Map, group_of, identity_map, quotient_of, zero_map
from cyclebounds.rows import unit_matrix
from cyclebounds.subgroup import Subgroup

TINY = (FINITE[0], FINITE[2], FINITE[3], FINITE[4], FINITE[5], FINITE[7])


class Sums(Case):
    def test_by_hand(self):
        groups = (cyclic_group(4), Group(2, ((2, 1),)), Group(0), cyclic_group(0))
        self.assertEqual(sum_of_groups(groups), Group(4, ((4, 0, 0, 0), (0, 2, 1, 0))))
        self.assertEqual(sum_of_groups(list(groups)), sum_of_groups(groups))
        self.assertEqual(sum_of_groups(()), Group(0))
        self.assertEqual(sum_of_groups([]), Group(0))
        self.assertEqual(sum_of_groups([groups[1]]), groups[1])
        self.assertEqual(into_sum(groups, 1).matrix, ((0, 1, 0, 0), (0, 0, 1, 0)))
        self.assertEqual(out_of_sum(groups, 1).matrix, ((0, 0), (1, 0), (0, 1), (0, 0)))
        self.assertEqual(into_sum(groups, 2).matrix, ())
        self.assertEqual(out_of_sum(groups, 2).matrix, ((), (), (), ()))
        self.assertEqual(out_of_sum(groups, 3).matrix, ((0,), (0,), (0,), (1,)))

    def test_into_and_out(self):
        for groups in (FINITE[:4], list(ENDLESS), [FINITE[8], ENDLESS[2], FINITE[9]]):
            total = sum_of_groups(groups)
            self.assertEqual(total.n, sum(group.n for group in groups))
            whole = zero_map(total, total)
            for k, group in enumerate(groups):
                into, out = into_sum(groups, k), out_of_sum(groups, k)
                self.assertEqual((into.source, into.target, out.source, out.target), (group, total, total, group))
                self.assertEqual(into.then(out).matrix, unit_matrix(group.n))
                whole = whole + out.then(into)
                for other in range(len(groups)):
                    if other != k:
                        self.assertTrue(into.then(out_of_sum(groups, other)).is_zero())
            self.assertEqual(whole.matrix, unit_matrix(total.n))

    def test_orders_of_sums(self):
        groups = (FINITE[4], FINITE[7], FINITE[5])
        self.assertEqual(sum_of_groups(groups).order(), 4 * 6 * 4)

    def test_large(self):
        groups = [free_group(20), Group(20, ((GREAT,) + (0,) * 19,))]
        self.assertEqual(sum_of_groups(groups).n, 40)
        self.assertEqual(into_sum(groups, 1).source, groups[1])
        self.refused("large", sum_of_groups, groups + [free_group(1)])
        self.refused("large", into_sum, groups + [free_group(1)], 0)
        self.refused("large", out_of_sum, tuple(groups) + (free_group(1),), 0)
        self.assertEqual(sum_of_groups([free_group(0)] * 50 + groups).n, 40)


class Pullbacks(Case):
    def check(self, f, g):
        group, p, q = pullback(f, g)
        pair = (f.source, g.source)
        total = sum_of_groups(pair)
        both = out_of_sum(pair, 0).then(f) - out_of_sum(pair, 1).then(g)
        own, into = group_of(both.kernel())
        self.assertEqual(group, own)
        self.assertEqual((p.source, p.target, q.source, q.target), (group, f.source, group, g.source))
        self.assertTrue(p == into.then(out_of_sum(pair, 0)) and q == into.then(out_of_sum(pair, 1)))
        self.assertTrue(p.then(f) == q.then(g))
        return total, into

    def test_against_walks(self):
        for c in TINY[1:5]:
            for a in TINY:
                for b in TINY[1:5]:
                    for f in all_maps(a, c)[:3]:
                        for g in all_maps(b, c)[:3]:
                            total, into = self.check(f, g)
                            walked = {x + y for x, s in images_of(f).items() for y, t in images_of(g).items() if s == t}
                            self.assertEqual(members(into.image()), {total.normal(row) for row in walked})
                            self.assertEqual(pullback(f, g)[0].order(), len(walked))

    def test_endless(self):
        four, six = Map(Group(1), Group(1), ((4,),)), Map(Group(1), Group(1), ((6,),))
        group, p, q = pullback(four, six)
        self.assertEqual((group, p.matrix, q.matrix), (Group(1), ((3,),), ((2,),)))
        for f in some_maps(seeded(32), 40):
            self.check(f, identity_map(f.target))
            self.check(f, f)
            self.check(zero_map(Group(0), f.target), f)

    def test_into_pullback(self):
        for f, g in ((Map(cyclic_group(4), cyclic_group(2), ((1,),)), Map(cyclic_group(6), cyclic_group(2), ((1,),))),
                     (zero_map(FINITE[5], FINITE[3]), zero_map(FINITE[4], FINITE[3]))):
            group, p, q = pullback(f, g)
            for x in (cyclic_group(4), FINITE[5], FINITE[8]):
                into_group = {}
                for h in all_maps(x, group):
                    key = (tuple(sorted(images_of(h.then(p)).items())), tuple(sorted(images_of(h.then(q)).items())))
                    self.assertNotIn(key, into_group)
                    into_group[key] = h
                for u in all_maps(x, f.source):
                    for v in all_maps(x, g.source):
                        key = (tuple(sorted(images_of(u).items())), tuple(sorted(images_of(v).items())))
                        if u.then(f) == v.then(g):
                            h = into_pullback(f, g, u, v)
                            self.assertTrue(h == into_group[key])
                            self.assertTrue(h.then(p) == u and h.then(q) == v)
                        else:
                            self.assertNotIn(key, into_group)
                            self.refused("commute", into_pullback, f, g, u, v)

    def test_errors_in_order(self):
        great = zero_map(free_group(39), Group(1))
        f, g = zero_map(Group(2), Group(1)), zero_map(Group(1), Group(1))
        one = identity_map(Group(1))
        self.malformed(pullback, f, zero_map(Group(1), Group(2)))
        self.malformed(pullback, great, zero_map(Group(2), cyclic_group(2)))
        self.refused("large", pullback, great, f)
        self.assertEqual(pullback(great, g)[0].n, 40)
        u, v = zero_map(Group(3), Group(2)), zero_map(Group(3), Group(1))
        self.assertTrue(into_pullback(f, g, u, v).is_zero())
        self.malformed(into_pullback, f, zero_map(Group(1), Group(2)), u, v)
        self.malformed(into_pullback, f, g, v, v)
        self.malformed(into_pullback, f, g, u, u)
        self.malformed(into_pullback, f, g, u, zero_map(Group(2), Group(1)))
        self.malformed(into_pullback, great, f, u, u)
        self.refused("large", into_pullback, great, f, zero_map(Group(3), free_group(39)), u)
        sums = Map(free_group(39), Group(1), ((1,),) * 39)
        ones = Map(Group(1), free_group(39), ((1,) * 39,))
        self.refused("large", into_pullback, sums, f, ones, zero_map(Group(1), Group(2)))
        self.refused("commute", into_pullback, sums, g, ones, one)
        self.refused("commute", into_pullback, one, one, one, one.scaled(2))


class Pushouts(Case):
    def check(self, f, g):
        group, p, q = pushout(f, g)
        pair = (f.target, g.target)
        total = sum_of_groups(pair)
        both = f.then(into_sum(pair, 0)) - g.then(into_sum(pair, 1))
        onto_group, onto = quotient_of(both.image())
        self.assertEqual(group, onto_group)
        self.assertEqual((p.source, p.target, q.source, q.target), (f.target, group, g.target, group))
        self.assertTrue(p == into_sum(pair, 0).then(onto) and q == into_sum(pair, 1).then(onto))
        self.assertTrue(f.then(p) == g.then(q))
        return total, onto

    def test_against_walks(self):
        for c in TINY[1:5]:
            for a in TINY:
                for b in TINY[1:5]:
                    for f in all_maps(c, a)[:3]:
                        for g in all_maps(c, b)[:3]:
                            total, onto = self.check(f, g)
                            walked = {total.normal(y + tuple(-item for item in g.value(x)))
                                      for x, y in images_of(f).items()}
                            self.assertEqual(members(onto.kernel()), walked)
                            self.assertEqual(pushout(f, g)[0].order() * len(walked), total.order())

    def test_endless(self):
        group, p, q = pushout(Map(Group(1), Group(1), ((4,),)), Map(Group(1), Group(1), ((6,),)))
        self.assertEqual((group, p.matrix, q.matrix), (Group(2, ((4, -6),)), ((1, 0),), ((0, 1),)))
        for f in some_maps(seeded(33), 40):
            self.check(f, identity_map(f.source))
            self.check(f, f)
            self.check(zero_map(f.source, Group(0)), f)
            self.assertEqual(pushout(zero_map(f.source, Group(0)), f)[0].order(), f.image().index())

    def test_out_of_pushout(self):
        for f, g in ((Map(cyclic_group(2), cyclic_group(4), ((2,),)), Map(cyclic_group(2), cyclic_group(6), ((3,),))),
                     (zero_map(FINITE[3], FINITE[5]), zero_map(FINITE[3], FINITE[4]))):
            group, p, q = pushout(f, g)
            for x in (cyclic_group(4), FINITE[5], cyclic_group(12)):
                out_of_group = {}
                for h in all_maps(group, x):
                    key = (tuple(sorted(images_of(p.then(h)).items())), tuple(sorted(images_of(q.then(h)).items())))
                    self.assertNotIn(key, out_of_group)
                    out_of_group[key] = h
                for u in all_maps(f.target, x):
                    for v in all_maps(g.target, x):
                        key = (tuple(sorted(images_of(u).items())), tuple(sorted(images_of(v).items())))
                        if f.then(u) == g.then(v):
                            h = out_of_pushout(f, g, u, v)
                            self.assertTrue(h == out_of_group[key])
                            self.assertTrue(p.then(h) == u and q.then(h) == v)
                        else:
                            self.assertNotIn(key, out_of_group)
                            self.refused("commute", out_of_pushout, f, g, u, v)

    def test_errors_in_order(self):
        great = zero_map(Group(1), free_group(39))
        f, g = zero_map(Group(1), Group(2)), zero_map(Group(1), Group(1))
        one = identity_map(Group(1))
        self.malformed(pushout, f, zero_map(Group(2), Group(1)))
        self.malformed(pushout, great, zero_map(cyclic_group(2), Group(2)))
        self.refused("large", pushout, great, f)
        self.assertEqual(pushout(great, g)[0].n, 40)
        u, v = zero_map(Group(2), Group(3)), zero_map(Group(1), Group(3))
        self.assertTrue(out_of_pushout(f, g, u, v).is_zero())
        self.malformed(out_of_pushout, f, zero_map(Group(2), Group(1)), u, v)
        self.malformed(out_of_pushout, f, g, v, v)
        self.malformed(out_of_pushout, f, g, u, u)
        self.malformed(out_of_pushout, f, g, u, zero_map(Group(1), Group(2)))
        self.malformed(out_of_pushout, great, f, u, u)
        sums = Map(free_group(39), Group(1), ((1,),) * 39)
        ones = Map(Group(1), free_group(39), ((1,) * 39,))
        self.refused("large", out_of_pushout, ones, f, sums, zero_map(Group(2), Group(1)))
        self.refused("commute", out_of_pushout, ones, g, sums, one)
        self.refused("commute", out_of_pushout, one, one, one, one.scaled(2))

    def test_rows_of_the_pushout(self):
        f, g = Map(Group(1), Group(2), ((1, GREAT),)), Map(Group(1), cyclic_group(6), ((5,),))
        expected = Subgroup(sum_of_groups((f.target, g.target)), [(1, GREAT, -5)])
        self.assertEqual(pushout(f, g)[0].relations, expected.rows)
