"""Groups: normal rows, orders, invariants, texts (points 2.1 to 2.4 and 2.7)."""

from tests.helper import FINITE, GREAT, ODD, Case, boxes, plainly_row, plainly_rows, random_rows, seeded
from cyclebounds.group import Group, are_isomorphic, cyclic_group, free_group, read_group
from cyclebounds.rows import add, scaled, span, unit_matrix


class Making(Case):
    def test_fields(self):
        group = Group(2, [[2, 4], (3, 1)])
        self.assertEqual((group.n, group.relations), (2, ((1, 7), (0, 10))))
        self.assertEqual(Group(3).relations, ())
        self.assertEqual(Group(0).relations, ())
        self.assertEqual(Group(0, [(), []]).relations, ())
        self.assertEqual(Group(2, ((0, 0),)).relations, ())
        self.assertEqual(Group(1, ((-GREAT,),)).relations, ((GREAT,),))
        self.assertEqual(Group(1, [(4,), (6,)]).relations, ((2,),))

    def test_malformed(self):
        for n in ODD:
            if type(n) is int and n >= 0:
                continue
            self.malformed(Group, n)
            self.malformed(Group, n, ((1,),))
            self.malformed(free_group, n)
        for n in range(4):
            for relations in ODD:
                if plainly_rows(relations, n):
                    self.assertEqual(Group(n, relations).n, n)
                else:
                    self.malformed(Group, n, relations)
        self.malformed(Group, 2, ((1, 2), (1, True)))
        self.malformed(Group, -1)
        self.malformed(Group, True)

    def test_large_comes_behind_malformed(self):
        self.assertEqual(Group(40).n, 40)
        self.refused("large", Group, 41)
        self.refused("large", Group, GREAT)
        self.refused("large", free_group, 41)
        self.refused("large", Group, 41, ((0,) * 41,))
        self.malformed(Group, 41, ((0,) * 40,))
        self.malformed(Group, 41, ((False,) * 41,))
        self.malformed(Group, 41, None)
        rows = random_rows(seeded(19), 201, 3, 9)
        self.assertEqual(Group(3, rows[:200]).relations, span(rows[:200], 3))
        self.refused("large", Group, 3, rows)
        self.refused("large", Group, 3, ((0, 0, 0),) * 201)
        self.refused("large", Group, 0, [()] * 201)
        self.malformed(Group, 3, rows + ((1, 2),))
        self.assertEqual(Group(40, random_rows(seeded(20), 200, 40, 9)).relations, unit_matrix(40))

    def test_equality(self):
        group = Group(2, ((2, 4), (3, 1)))
        self.assertTrue(group == Group(2, ((1, 7), (0, 10))))
        self.assertFalse(group != Group(2, ((1, 7), (0, 10))))
        self.assertFalse(group == Group(2))
        self.assertFalse(Group(2) == Group(3))
        for value in ODD:
            if not isinstance(value, Group):
                self.assertIs(group == value, False)
                self.assertIs(group != value, True)

    def test_named_groups(self):
        self.assertEqual(free_group(3), Group(3))
        self.assertEqual(free_group(0), Group(0, ()))
        self.assertEqual(cyclic_group(6), Group(1, ((6,),)))
        self.assertEqual(cyclic_group(0), Group(1))
        self.assertEqual(cyclic_group(1).order(), 1)
        self.assertEqual(cyclic_group(GREAT).order(), GREAT)
        for k in ODD:
            if type(k) is not int or k < 0:
                self.malformed(cyclic_group, k)


class Rows(Case):
    def test_is_row(self):
        for n in range(4):
            self.same_truth(Group(n).is_row, lambda value: plainly_row(value, n), ODD)

    def test_wrong_rows(self):
        for group in (Group(0), cyclic_group(3), Group(2, ((2, 0),)), Group(3)):
            good = (0,) * group.n
            calls = (group.normal, group.is_zero, group.order_of, lambda x: group.same(x, good),
                     lambda x: group.same(good, x), lambda x: group.same(x, x))
            for call in calls:
                self.malformed_unless_row(call, group.n)

    def test_normal_rows(self):
        group = Group(2, ((2, 4), (0, 6)))
        self.assertEqual(group.normal((3, 0)), (1, 2))
        self.assertEqual(group.normal((-1, 0)), (1, 4))
        self.assertEqual(group.normal((2 * GREAT, 4 * GREAT)), (0, 0))
        self.assertEqual(Group(2).normal((3, -4)), (3, -4))
        self.assertEqual(Group(0).normal(()), ())
        self.assertTrue(group.same((3, 0), (1, 2)))
        self.assertFalse(group.same((3, 0), (1, 1)))
        self.assertIs(group.is_zero((4, 2)), True)
        self.assertIs(group.is_zero((4, 3)), False)

    def test_orders_of_members(self):
        group = Group(2, ((2, 4), (0, 6)))
        self.assertEqual(group.order_of((1, 0)), 6)
        self.assertEqual(group.order_of((0, 0)), 1)
        self.assertEqual(group.order_of((0, 3)), 2)
        self.assertEqual(Group(2, ((2, 0),)).order_of((1, 0)), 2)
        self.assertEqual(Group(2, ((2, 0),)).order_of((1, 1)), 0)
        self.assertEqual(Group(2, ((2, 4),)).order_of((1, 2)), 2)
        self.assertEqual(Group(2, ((2, 4),)).order_of((1, 1)), 0)
        self.assertEqual(Group(0).order_of(()), 1)
        self.assertEqual(cyclic_group(GREAT).order_of((-1,)), GREAT)
        self.assertEqual(Group(1).order_of((-GREAT,)), 0)

    def test_orders_of_members_one_by_one(self):
        for group in FINITE + (Group(2, ((3, 1), (0, 5))),):
            for x in group.all_elements():
                k = 1
                while not group.is_zero(scaled(x, k)):
                    k += 1
                self.assertEqual(group.order_of(x), k)
                self.assertEqual(group.order_of(add(x, scaled(x, group.order()))), k)


class Counting(Case):
    def test_orders(self):
        self.assertEqual(Group(0).order(), 1)
        self.assertEqual(Group(1).order(), 0)
        self.assertEqual(Group(2, ((2, 0),)).order(), 0)
        self.assertEqual(Group(2, ((2, 4), (0, 6))).order(), 12)
        self.assertEqual(Group(2, ((GREAT, 1), (0, GREAT))).order(), GREAT ** 2)

    def test_all_elements(self):
        self.assertEqual(Group(0).all_elements(), ((),))
        self.assertEqual(cyclic_group(3).all_elements(), ((0,), (1,), (2,)))
        for group in FINITE:
            found = group.all_elements()
            self.assertEqual(found, tuple(sorted(found)))
            self.assertEqual(len(found), group.order())
            self.assertEqual(set(found), {group.normal(x) for x in boxes(group.n, 12)})

    def test_too_many(self):
        self.refused("endless", Group(1).all_elements)
        self.refused("endless", Group(2, ((2001, 0),)).all_elements)
        self.refused("many", cyclic_group(2001).all_elements)
        self.refused("many", Group(2, ((GREAT, 0), (0, 2))).all_elements)
        self.assertEqual(len(cyclic_group(2000).all_elements()), 2000)
        self.assertEqual(len(Group(2, ((40, 3), (0, 50))).all_elements()), 2000)

    def test_invariants(self):
        self.assertEqual(Group(2, ((2, 4), (0, 6))).invariants(), ((2, 6), 0))
        self.assertEqual(Group(0).invariants(), ((), 0))
        self.assertEqual(Group(3).invariants(), ((), 3))
        self.assertEqual(Group(3, ((2, 0, 0), (0, 3, 0))).invariants(), ((6,), 1))
        self.assertEqual(cyclic_group(1).invariants(), ((), 0))
        self.assertEqual(Group(3, ((1, 0, 0), (0, 4, 0), (0, 0, 6))).invariants(), ((2, 12), 0))

    def test_invariants_count_orders(self):
        # Groups of one order are isomorphic exactly if they have as many elements of each order.
        groups = FINITE + (cyclic_group(8), Group(2, ((2, 1), (0, 4))), Group(3, scaled_unit(3, 2)))
        for a in groups:
            for b in groups:
                counts = [sorted(g.order_of(x) for x in g.all_elements()) for g in (a, b)]
                self.assertEqual(are_isomorphic(a, b), counts[0] == counts[1])
                self.assertEqual(a.invariants() == b.invariants(), are_isomorphic(a, b))

    def test_isomorphic(self):
        self.assertIs(are_isomorphic(Group(2, ((2, 0), (0, 3))), cyclic_group(6)), True)
        self.assertIs(are_isomorphic(Group(2, ((2, 0), (0, 2))), cyclic_group(4)), False)
        self.assertIs(are_isomorphic(Group(1), Group(2, ((3, 1),))), True)
        self.assertIs(are_isomorphic(Group(1), Group(2)), False)


def scaled_unit(n, k):
    return tuple(scaled(row, k) for row in unit_matrix(n))


class Texts(Case):
    def test_texts(self):
        for group, text in ((Group(2, ((2, 0), (0, 3))), "2: 2 0, 0 3"), (Group(2), "2:"), (Group(0), "0:"),
                            (Group(2, ((2, 4), (0, 6))), "2: 2 4, 0 6"), (Group(3, ((1, 0, -5),)), "3: 1 0 -5"),
                            (Group(40), "40:"), (cyclic_group(GREAT), f"1: {GREAT}")):
            self.assertEqual(str(group), text)
            self.assertEqual(read_group(text), group)

    def test_texts_of_many_groups(self):
        chance = seeded(21)
        for _ in range(80):
            n = chance.randint(0, 5)
            group = Group(n, random_rows(chance, chance.randint(0, 5), n, chance.choice((3, GREAT))))
            self.assertEqual(read_group(str(group)), group)

    def test_no_texts(self):
        wrong = ("", ":", "2", "2 :", " 2:", "2: ", "2:2 0", "2:  2 0", "2: 2 0 ", "2: 2 0,0 3", "2: 2 0,  0 3",
                 "2: 2  0", "2: 2 0, ", "02:", "-1:", "+1:", "-0:", "2: 02 0", "2: +2 0", "2: -0 2", "2: 2", "2: 2 0 0",
                 "0: ", "0: 0", "41:", "2: 0 0", "2: -2 0", "2: 0 3, 2 0", "2: 2 3, 0 3", "2: 1 0, 1 1", "2: 2 0;",
                 "1: 3\n", "1:\n", "1: 1_0", "1: 1.0", "\u0661:", "1: \u0663", "1: \u00b2", "1:\u00a03", "1: a", "2:: 2 0",
                 str(GREAT) + ":", "1: 3, 6", "1: ,", "2: None None", "1: True")
        for text in wrong + ODD:
            if text not in ("2: 2 0",):
                self.no_text(read_group, text)
        self.assertEqual(read_group("2: 2 0"), Group(2, ((2, 0),)))

    def test_longest_texts(self):
        digits = "9" * 1997
        self.assertEqual(len("1: " + digits), 2000)
        self.assertEqual(read_group("1: " + digits), cyclic_group(int(digits)))
        self.no_text(read_group, "1: " + digits + "9")
        self.assertEqual(str(cyclic_group(int("9" * 4000))), "1: " + "9" * 4000)
