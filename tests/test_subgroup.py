"""Subgroups: index, sums, meets, multiples, annulled elements, torsion (points 2.5 and 2.6)."""

from itertools import combinations_with_replacement

from tests.helper import FINITE, GREAT, ODD, Case, members, plainly_row, plainly_rows, plus, random_rows, seeded
from cyclebounds.group import Group, cyclic_group, free_group
from cyclebounds.rows import is_reduced, scaled, span, unit_matrix
from cyclebounds.subgroup import (
    Subgroup, annulled, meet, multiples, sum_of_subgroups, torsion, whole, zero)


def walked(group, rows):
    """The elements that the elements of the rows span, found one sum after the other."""
    found = {group.normal((0,) * group.n)}
    fresh = list(found)
    while fresh:
        x = fresh.pop()
        for row in rows:
            y = plus(group, x, row)
            if y not in found:
                found.add(y)
                fresh.append(y)
    return found


def subgroups(group):
    """Subgroups of a finite group, spanned by up to two elements."""
    return [Subgroup(group, pair) for pair in combinations_with_replacement(group.all_elements(), 2)]


class Making(Case):
    def test_fields(self):
        part = Subgroup(cyclic_group(12), [[8]])
        self.assertEqual(part.group, cyclic_group(12))
        self.assertEqual(part.rows, ((4,),))
        self.assertEqual(Subgroup(Group(2), ()).rows, ())
        self.assertEqual(Subgroup(Group(0), [()]).rows, ())
        self.assertEqual(Subgroup(Group(2, ((2, 0),)), [(0, GREAT)]).rows, ((2, 0), (0, GREAT)))
        self.assertEqual(Subgroup(Group(2), [(1, 1)] * 300).rows, ((1, 1),))

    def test_malformed(self):
        for group in ODD:
            if not isinstance(group, Group):
                self.malformed(Subgroup, group, ())
                self.malformed(Subgroup, group, ((1,),))
        for group in (Group(0), cyclic_group(2), Group(2), Group(3)):
            for rows in ODD:
                if plainly_rows(rows, group.n):
                    self.assertTrue(is_reduced(Subgroup(group, rows).rows, group.n))
                else:
                    self.malformed(Subgroup, group, rows)

    def test_equality(self):
        self.assertTrue(Subgroup(cyclic_group(12), [(8,)]) == Subgroup(cyclic_group(12), [(4,)]))
        self.assertFalse(Subgroup(cyclic_group(12), [(8,)]) == Subgroup(cyclic_group(12), [(6,)]))
        self.assertFalse(Subgroup(cyclic_group(12), [(4,)]) == Subgroup(Group(1), [(4,)]))
        for value in ODD:
            if not isinstance(value, Subgroup):
                self.assertIs(Subgroup(cyclic_group(12), [(8,)]) == value, False)

    def test_whole_and_zero(self):
        for group in FINITE + (Group(3), Group(2, ((4, 2),))):
            self.assertEqual(whole(group), Subgroup(group, unit_matrix(group.n)))
            self.assertEqual(whole(group).index(), 1)
            self.assertEqual(zero(group).rows, group.relations)
            self.assertEqual(zero(group).index(), group.order())


class Parts(Case):
    def test_holds(self):
        part = Subgroup(cyclic_group(12), [(8,)])
        for value in ODD:
            expected = plainly_row(value, 1) and value[0] % 4 == 0
            self.assertIs(part.holds(value), expected)
        self.assertIs(part.holds((-4 * GREAT,)), True)
        self.assertIs(zero(Group(0)).holds(()), True)
        self.assertIs(whole(Group(2)).holds([0, 0]), False)
        self.assertIs(zero(Group(2)).holds((0, 1)), False)

    def test_index(self):
        self.assertEqual(Subgroup(cyclic_group(0), [(4,), (6,)]).index(), 2)
        self.assertEqual(Subgroup(Group(2), [(1, 0)]).index(), 0)
        self.assertEqual(Subgroup(Group(2), [(2, 1), (0, GREAT)]).index(), 2 * GREAT)
        self.assertEqual(zero(Group(2, ((3, 0),))).index(), 0)
        self.assertEqual(whole(Group(0)).index(), 1)

    def test_against_walks(self):
        for group in FINITE:
            for part in subgroups(group):
                found = walked(group, part.rows)
                self.assertEqual(members(part), found)
                self.assertEqual(part.index() * len(found), group.order())

    def test_is_inside(self):
        for group in FINITE:
            parts = subgroups(group)[::3]
            for a in parts:
                for b in parts:
                    self.assertIs(a.is_inside(b), members(a) <= members(b))
        self.assertIs(Subgroup(Group(1), [(6,)]).is_inside(Subgroup(Group(1), [(3,)])), True)
        self.assertIs(Subgroup(Group(1), [(3,)]).is_inside(Subgroup(Group(1), [(6,)])), False)
        self.malformed(zero(Group(1)).is_inside, zero(Group(2)))
        self.malformed(zero(Group(1)).is_inside, zero(cyclic_group(2)))


class Made(Case):
    def test_sums_and_meets_against_walks(self):
        for group in FINITE:
            parts = subgroups(group)[::3]
            for a in parts:
                for b in parts:
                    self.assertEqual(members(meet(a, b)), members(a) & members(b))
                    self.assertEqual(members(sum_of_subgroups(a, b)),
                                     {plus(group, x, y) for x in members(a) for y in members(b)})

    def test_sums_and_meets_of_endless_ones(self):
        group = Group(1)
        four, six = Subgroup(group, [(4,)]), Subgroup(group, [(6,)])
        self.assertEqual(meet(four, six).rows, ((12,),))
        self.assertEqual(sum_of_subgroups(four, six).rows, ((2,),))
        plane = Group(2)
        self.assertEqual(meet(Subgroup(plane, [(1, 1)]), Subgroup(plane, [(1, -1)])), zero(plane))
        self.assertEqual(meet(whole(plane), Subgroup(plane, [(2, 3)])).rows, ((2, 3),))
        self.assertEqual(sum_of_subgroups(zero(plane), zero(plane)), zero(plane))
        self.assertEqual(meet(whole(Group(0)), zero(Group(0))), zero(Group(0)))

    def test_unlike_groups(self):
        for call in (meet, sum_of_subgroups):
            self.malformed(call, zero(Group(1)), zero(Group(2)))
            self.malformed(call, whole(cyclic_group(2)), whole(cyclic_group(4)))

    def test_multiples_and_annulled_against_walks(self):
        for group in FINITE:
            every = group.all_elements()
            for k in (0, 1, 2, 3, 4, 6, GREAT):
                self.assertEqual(members(multiples(group, k)), {group.normal(scaled(x, k)) for x in every})
                self.assertEqual(members(annulled(group, k)), {x for x in every if group.is_zero(scaled(x, k))})

    def test_multiples_and_annulled_of_endless_ones(self):
        self.assertEqual(multiples(Group(1), 3).rows, ((3,),))
        self.assertEqual(multiples(Group(1), 0), zero(Group(1)))
        self.assertEqual(annulled(Group(1), 3), zero(Group(1)))
        self.assertEqual(annulled(Group(1), 0), whole(Group(1)))
        self.assertEqual(annulled(Group(2, ((6, 0),)), 4).rows, ((3, 0),))
        self.assertEqual(annulled(Group(2, ((4, 6),)), 2).rows, ((2, 3),))
        self.assertEqual(multiples(Group(0), 5), whole(Group(0)))

    def test_multiples_and_annulled_malformed(self):
        for k in ODD:
            for call in (multiples, annulled):
                if type(k) is int and k >= 0:
                    self.assertIsInstance(call(cyclic_group(6), k), Subgroup)
                else:
                    self.malformed(call, cyclic_group(6), k)

    def test_torsion(self):
        self.assertEqual(torsion(Group(2, ((4, 6),))).rows, ((2, 3),))
        self.assertEqual(torsion(free_group(3)), zero(free_group(3)))
        self.assertEqual(torsion(Group(0)), whole(Group(0)))
        for group in FINITE:
            self.assertEqual(torsion(group), whole(group))
        chance = seeded(22)
        for _ in range(80):
            n = chance.randint(0, 4)
            group = Group(n, [scaled(row, chance.randint(0, 6)) for row in random_rows(chance, chance.randint(0, n), n, 3)])
            part = torsion(group)
            self.assertEqual(len(part.rows), len(group.relations))
            for x in part.rows + random_rows(chance, 6, n, 4):
                self.assertEqual(part.holds(x), group.order_of(x) != 0)

    def test_rows_are_those_of_the_lattice(self):
        chance = seeded(23)
        for _ in range(60):
            n = chance.randint(0, 4)
            group = Group(n, random_rows(chance, 2, n, 5))
            rows = random_rows(chance, 3, n, 5)
            self.assertEqual(Subgroup(group, rows).rows, span(rows + group.relations, n))
