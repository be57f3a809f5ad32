"""Rows of six groups (point 5.7)."""

from tests.helper import FINITE, GREAT, Case, combined, plus, seeded
from tests.test_extension import ALL, disguised, some_extensions
from tests.test_maps import ENDLESS
from cyclebounds.exact import is_exact, origin
from cyclebounds.ext import ext_class, ext_group, ext_pulled, ext_pushed, extension_of
from cyclebounds.extension import Extension, pulled, pushed
from cyclebounds.group import Group, cyclic_group, free_group
from cyclebounds.maps import Map, identity_map, zero_map
from cyclebounds.rows import unit_matrix, unit_row
from cyclebounds.sixes import six_in, six_out, six_tensor
from cyclebounds.tensor import (
    hom_group, hom_map, hom_of, tensor_group, tensor_map, tensor_of, tor_group, tor_into, tor_map)

TESTED = (FINITE[0], FINITE[4], FINITE[7], FINITE[8], ENDLESS[0], ENDLESS[2], ENDLESS[3])


def some_rows(number, count):
    chance = seeded(number)
    for x in some_extensions(chance, count):
        g = chance.choice(TESTED)
        if max(x.first().n, x.middle().n, x.last().n) * g.n <= 40:
            yield x, g


class Exact(Case):
    def check_row(self, row, groups):
        self.assertIs(type(row), tuple)
        self.assertEqual(len(row), 5)
        self.assertEqual([f.source for f in row] + [row[-1].target], groups)
        for f, g in zip(row, row[1:]):
            self.assertTrue(f.then(g).is_zero())
            self.assertTrue(is_exact(f, g))
        self.assertTrue(row[0].is_one_to_one())
        self.assertTrue(row[4].is_onto())

    def check_all(self, x, g):
        b, e, a = x.first(), x.middle(), x.last()
        self.check_row(six_out(x, g), [hom_group(a, g), hom_group(e, g), hom_group(b, g),
                                       ext_group(a, g), ext_group(e, g), ext_group(b, g)])
        self.check_row(six_in(g, x), [hom_group(g, b), hom_group(g, e), hom_group(g, a),
                                      ext_group(g, b), ext_group(g, e), ext_group(g, a)])
        self.check_row(six_tensor(x, g), [tor_group(b, g), tor_group(e, g), tor_group(a, g),
                                          tensor_group(b, g), tensor_group(e, g), tensor_group(a, g)])

    def test_exact_at_the_four_groups_inside(self):
        for x, g in some_rows(51, 150):
            self.check_all(x, g)

    def test_orders_of_finite_rows(self):
        # In an exact row of finite groups the products of the orders at even and at odd places are equal.
        for a, b, g in ((FINITE[4], FINITE[8], FINITE[8]), (FINITE[8], FINITE[5], FINITE[4])):
            for c in ext_group(a, b).all_elements()[:6]:
                x = extension_of(a, b, c)
                for row in (six_out(x, g), six_in(g, x), six_tensor(x, g)):
                    orders = [f.source.order() for f in row] + [row[-1].target.order()]
                    self.assertEqual(orders[0] * orders[2] * orders[4], orders[1] * orders[3] * orders[5])

    def test_groups_without_generators(self):
        nothing = Group(0)
        for group in ALL[:6]:
            for x in (Extension(identity_map(group), zero_map(group, nothing)),
                      Extension(zero_map(nothing, group), identity_map(group))):
                for g in (nothing, cyclic_group(4), Group(1), free_group(2)):
                    self.check_all(x, g)

    def test_great_numbers(self):
        x = Extension(Map(Group(1), Group(1), ((GREAT,),)), Map(Group(1), cyclic_group(GREAT), ((1,),)))
        for g in (cyclic_group(GREAT * 2), cyclic_group(GREAT + 1), Group(1)):
            self.check_all(x, g)

    def test_large(self):
        for n, m, size, fits in ((2, 3, 8, True), (39, 1, 1, True), (2, 4, 7, False), (3, 39, 0, True), (1, 2, 14, False)):
            a, b, g = free_group(n), Group(m, [(2,) + (0,) * (m - 1)]), free_group(size)
            if n + m > 40:
                x = Extension(identity_map(b), zero_map(b, Group(0)))
            else:
                x = extension_of(a, b, ())
            for call, args in ((six_out, (x, g)), (six_in, (g, x)), (six_tensor, (x, g))):
                if fits:
                    self.assertEqual(len(call(*args)), 5)
                else:
                    self.refused("large", call, *args)

    def test_each_group_may_be_the_large_one(self):
        # The ends may have more generators than the middle, if relations make them small.
        wide, one = Group(7, unit_matrix(7)), Group(0)
        six = free_group(6)
        for x in (Extension(zero_map(wide, one), identity_map(one)), Extension(identity_map(one), zero_map(one, wide)),
                  Extension(zero_map(wide, one), zero_map(one, wide))):
            for call, args in ((six_out, (x, six)), (six_in, (six, x)), (six_tensor, (x, six))):
                self.refused("large", call, *args)
            self.check_all(x, free_group(5))


class Maps(Case):
    def test_maps_of_the_extension(self):
        for x, g in some_rows(52, 60):
            same = identity_map(g)
            out, into, tensor = six_out(x, g), six_in(g, x), six_tensor(x, g)
            expected = (
                (out, (hom_map(x.p, same), hom_map(x.i, same), None, ext_pulled(x.p, g), ext_pulled(x.i, g))),
                (into, (hom_map(same, x.i), hom_map(same, x.p), None, ext_pushed(g, x.i), ext_pushed(g, x.p))),
                (tensor, (tor_map(x.i, g), tor_map(x.p, g), None, tensor_map(x.i, same), tensor_map(x.p, same))))
            for row, told in expected:
                for f, known in zip(row, told):
                    self.assertTrue(known is None or f == known)

    def test_connecting_maps_of_groups_of_maps(self):
        for x, g in some_rows(53, 80):
            a, b = x.last(), x.first()
            if x.middle().n + g.n > 40:
                continue
            out, into = six_out(x, g)[2], six_in(g, x)[2]
            for row in unit_matrix(out.source.n):
                self.assertEqual(out.value(row), ext_class(pushed(x, hom_of(b, g, row))[0]))
            for row in unit_matrix(into.source.n):
                self.assertEqual(into.value(row), ext_class(pulled(x, hom_of(g, a, row))[0]))

    def test_connecting_maps_of_tor(self):
        for x, g in some_rows(54, 80):
            a, b, e = x.last(), x.first(), x.middle()
            found, into, target = six_tensor(x, g)[2], tor_into(a, g), tensor_group(b, g)
            chosen = [origin(x.p, row) for row in unit_matrix(a.n)]
            parts = [origin(x.i, combined(relation, chosen, e.n)) for relation in a.relations]
            for row in unit_matrix(found.source.n):
                image, total = into.value(row), (0,) * target.n
                for i, part in enumerate(parts):
                    total = plus(target, total, tensor_of(b, g, part, image[i * g.n:(i + 1) * g.n]))
                self.assertEqual(found.value(row), total)

    def test_other_generators_of_the_middle(self):
        chance = seeded(55)
        for x, g in some_rows(56, 40):
            y = disguised(chance, x)
            if y.middle().n * g.n <= 40:
                for call, args, others in ((six_out, (x, g), (y, g)), (six_in, (g, x), (g, y)),
                                           (six_tensor, (x, g), (y, g))):
                    self.assertTrue(call(*args)[2] == call(*others)[2])

    def test_by_hand(self):
        two, four = cyclic_group(2), cyclic_group(4)
        x = Extension(Map(two, four, ((2,),)), Map(four, two, ((1,),)))
        for row in (six_out(x, two), six_in(two, x), six_tensor(x, two)):
            self.assertEqual([f.value(unit_row(f.source.n, 0)) for f in row], [(1,), (0,), (1,), (0,), (1,)])
