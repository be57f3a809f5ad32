"""Rows, matrices, reduced tables, rests, kernels and solving (points 1.1 to 1.5)."""

from tests.helper import GREAT, ODD, Case, boxes, plainly_row, random_rows, seeded
from cyclebounds.rows import (
    add, common_part, coordinates, dot, holds, is_matrix, is_reduced, is_row, kernel, moved, rest, scaled, solve, span,
    sum_of, times, transposed, unit_matrix, unit_row, zero_matrix)


def closure(rows, width, m):
    """All rows modulo m that sums of the rows are, found one sum after the other."""
    found = {(0,) * width}
    fresh = list(found)
    while fresh:
        x = fresh.pop()
        for row in rows:
            y = tuple((a + b) % m for a, b in zip(x, row))
            if y not in found:
                found.add(y)
                fresh.append(y)
    return found


def samples(chance, count):
    """Tables of all shapes, without rows and of the width 0 among them, with little and great items."""
    for _ in range(count):
        n, width = chance.randint(0, 5), chance.randint(0, 5)
        yield random_rows(chance, n, width, chance.choice((1, 2, 6, 30, GREAT))), width


class Kinds(Case):
    def test_is_row(self):
        for n in range(4):
            self.same_truth(lambda value: is_row(value, n), lambda value: plainly_row(value, n), ODD)
        self.assertIs(is_row((1, -GREAT), 2), True)
        self.assertIs(is_row([1, 2], 2), False)
        self.assertIs(is_row((1, True), 2), False)
        self.assertIs(is_row((), 0), True)

    def test_is_matrix(self):
        def plainly(value, n, width):
            return type(value) is tuple and len(value) == n and all(plainly_row(row, width) for row in value)
        for n in range(3):
            for width in range(3):
                self.same_truth(lambda value: is_matrix(value, n, width), lambda value: plainly(value, n, width), ODD)
        self.assertIs(is_matrix(((1, 2), (3, 4)), 2, 2), True)
        self.assertIs(is_matrix([(1, 2), (3, 4)], 2, 2), False)
        self.assertIs(is_matrix(([1, 2], [3, 4]), 2, 2), False)
        self.assertIs(is_matrix(((1, 2), (3, False)), 2, 2), False)
        self.assertIs(is_matrix((), 0, 5), True)
        self.assertIs(is_matrix(((), ()), 2, 0), True)

    def test_is_reduced(self):
        right = [((), 3), ((), 0), (((1, 7), (0, 10)), 2), (((0, 3),), 2), (((2, 0, -5),), 3), (((2, 2), (0, 3)), 2),
                 (((1, 0, -GREAT), (0, GREAT, GREAT)), 3)]
        wrong = [(((0, 0),), 2), (((-1, 0),), 2), (((1, 10), (0, 10)), 2), (((1, -1), (0, 10)), 2),
                 (((0, 1), (1, 0)), 2), (((1, 0), (1, 1)), 2), ([(1, 7)], 2), (([1, 7],), 2), (((1, 7),), 3),
                 (((True, 7),), 2), (((),), 0), (((1, 0), (0, 0)), 2), (((2, 0), (3, 1)), 2)]
        for value, width in right:
            self.assertIs(is_reduced(value, width), True, value)
        for value, width in wrong:
            self.assertIs(is_reduced(value, width), False, value)
        for width in range(4):
            for value in ODD:
                self.assertIsInstance(is_reduced(value, width), bool)


class Parts(Case):
    def test_units_and_zeros(self):
        self.assertEqual(unit_row(3, 1), (0, 1, 0))
        self.assertEqual(unit_matrix(2), ((1, 0), (0, 1)))
        self.assertEqual(unit_matrix(0), ())
        self.assertEqual(zero_matrix(2, 3), ((0, 0, 0), (0, 0, 0)))
        self.assertEqual(zero_matrix(0, 3), ())
        self.assertEqual(zero_matrix(2, 0), ((), ()))

    def test_sums_and_products(self):
        self.assertEqual(add((1, -2), (3, GREAT)), (4, GREAT - 2))
        self.assertEqual(add((), ()), ())
        self.assertEqual(scaled((1, -2), -3), (-3, 6))
        self.assertEqual(scaled((1, -2), 0), (0, 0))
        self.assertEqual(dot((1, 2, 3), (4, -5, 6)), 12)
        self.assertEqual(dot((), ()), 0)

    def test_moved_and_times(self):
        self.assertEqual(moved((2, -1), ((1, 0, 3), (0, 5, 1)), 3), (2, -5, 5))
        self.assertEqual(moved((), (), 2), (0, 0))
        self.assertEqual(moved((1, 2), [(), ()], 0), ())
        self.assertEqual(times(((1, 2), (3, 4)), ((0, 1), (1, 1)), 2), ((2, 3), (4, 7)))
        self.assertEqual(times((), ((1, 2),), 2), ())
        self.assertEqual(times(((), ()), (), 2), ((0, 0), (0, 0)))
        self.assertEqual(times([(1, 2)], [(3,), (4,)], 1), ((11,),))

    def test_moved_twice_is_moved_by_the_product(self):
        chance = seeded(2)
        for _ in range(60):
            n, m, width = (chance.randint(0, 4) for _ in range(3))
            one, two = random_rows(chance, n, m, 9), random_rows(chance, m, width, 9)
            x = random_rows(chance, 1, n, 9)[0]
            self.assertEqual(moved(x, times(one, two, width), width), moved(moved(x, one, m), two, width))
            by_items = tuple(tuple(sum(one[i][k] * two[k][j] for k in range(m)) for j in range(width)) for i in range(n))
            self.assertEqual(times(one, two, width), by_items)

    def test_transposed(self):
        self.assertEqual(transposed(((1, 2, 3), (4, 5, 6)), 3), ((1, 4), (2, 5), (3, 6)))
        self.assertEqual(transposed((), 2), ((), ()))
        self.assertEqual(transposed([(), ()], 0), ())


class Lattices(Case):
    def test_span_of_nothing_and_of_zeros(self):
        self.assertEqual(span((), 3), ())
        self.assertEqual(span([], 0), ())
        self.assertEqual(span(((), ()), 0), ())
        self.assertEqual(span(((0, 0), (0, 0)), 2), ())
        self.assertEqual(span([(0, 0), (0, -3)], 2), ((0, 3),))

    def test_span_by_hand(self):
        self.assertEqual(span([(2, 4), (3, 1)], 2), ((1, 7), (0, 10)))
        self.assertEqual(span(((4,), (6,)), 1), ((2,),))
        self.assertEqual(span(((0, 2, 1), (0, 0, 5), (3, 1, 9)), 3), ((3, 1, 4), (0, 2, 1), (0, 0, 5)))
        self.assertEqual(span(((GREAT, 0), (GREAT + 1, 0)), 2), ((1, 0),))
        self.assertEqual(span(((-6, 3, 2),), 3), ((6, -3, -2),))

    def test_span_is_reduced_and_the_same_for_all_tables_of_a_lattice(self):
        chance = seeded(3)
        for rows, width in samples(chance, 250):
            table = span(rows, width)
            self.assertTrue(is_reduced(table, width))
            self.assertEqual(span(table, width), table)
            mixed = list(rows)
            for _ in range(6):
                if len(rows) > 1:
                    i, j = chance.sample(range(len(rows)), 2)
                    mixed[i] = add(mixed[i], scaled(mixed[j], chance.randint(-3, 3)))
            chance.shuffle(mixed)
            self.assertEqual(span(mixed + [(0,) * width], width), table)
            self.assertTrue(all(holds(table, row) for row in rows))
            self.assertTrue(all(solve(rows, width, row) is not None for row in table))

    def test_span_against_all_sums_modulo_a_number(self):
        chance = seeded(4)
        for _ in range(40):
            width, m = chance.randint(1, 3), chance.randint(1, 6)
            rows = random_rows(chance, chance.randint(0, 3), width, m)
            found = closure(rows, width, m)
            table = span(rows + tuple(scaled(row, m) for row in unit_matrix(width)), width)
            for x in boxes(width, m):
                self.assertEqual(holds(table, x), x in found)

    def test_rest(self):
        table = ((1, 7), (0, 10))
        self.assertEqual(rest(table, (2, 3)), (0, 9))
        self.assertEqual(rest(((2, 1, 5),), (-3, 4, 0)), (1, 6, 10))
        self.assertEqual(rest((), (4, -5)), (4, -5))
        self.assertEqual(rest((), ()), ())
        chance = seeded(5)
        for rows, width in samples(chance, 150):
            table = span(rows, width)
            x = random_rows(chance, 1, width, GREAT)[0]
            low = rest(table, x)
            self.assertTrue(holds(table, add(x, scaled(low, -1))))
            for row in table:
                place = next(j for j in range(width) if row[j] != 0)
                self.assertTrue(0 <= low[place] < row[place])
                self.assertEqual(rest(table, add(x, row)), low)
            self.assertEqual(rest(table, low), low)

    def test_holds(self):
        self.assertIs(holds(((2, 0), (0, 3)), (4, -3)), True)
        self.assertIs(holds(((2, 0), (0, 3)), (4, 1)), False)
        self.assertIs(holds(((2, 0),), (0, 1)), False)
        self.assertIs(holds((), (0, 0)), True)
        self.assertIs(holds((), ()), True)
        self.assertIs(holds(((0, 3),), (GREAT, 0)), False)

    def test_coordinates(self):
        self.assertEqual(coordinates(((1, 7), (0, 10)), (2, 4)), (2, -1))
        self.assertIsNone(coordinates(((1, 7), (0, 10)), (2, 5)))
        self.assertIsNone(coordinates(((2, 1),), (0, 1)))
        self.assertIsNone(coordinates(((2, 1),), (1, 0)))
        self.assertEqual(coordinates((), (0, 0)), ())
        self.assertEqual(coordinates((), ()), ())
        self.assertIsNone(coordinates((), (0, 1)))
        chance = seeded(6)
        for rows, width in samples(chance, 100):
            table = span(rows, width)
            asked = random_rows(chance, 1, len(table), GREAT)[0]
            self.assertEqual(coordinates(table, moved(asked, table, width)), asked)

    def test_sum_of_and_common_part(self):
        self.assertEqual(sum_of(((4, 0),), ((6, 0), (0, 5)), 2), ((2, 0), (0, 5)))
        self.assertEqual(common_part(((4, 0), (0, 1)), ((6, 0), (0, 5)), 2), ((12, 0), (0, 5)))
        self.assertEqual(common_part(((1, 1),), ((1, -1),), 2), ())
        self.assertEqual(common_part((), ((1, 0),), 2), ())
        self.assertEqual(common_part((), (), 0), ())
        self.assertEqual(sum_of((), (), 3), ())
        chance = seeded(7)
        for _ in range(60):
            width = chance.randint(1, 3)
            a, b = (span(random_rows(chance, chance.randint(0, 3), width, 4), width) for _ in range(2))
            both, total = common_part(a, b, width), sum_of(a, b, width)
            self.assertTrue(is_reduced(both, width) and is_reduced(total, width))
            self.assertEqual(total, span(a + b, width))
            for x in boxes(width, 5):
                x = tuple(item - 2 for item in x)
                self.assertEqual(holds(both, x), holds(a, x) and holds(b, x))


class Solving(Case):
    def test_kernel_by_hand(self):
        self.assertEqual(kernel(((1, 0), (0, 1)), 2), ())
        self.assertEqual(kernel(((2,), (3,)), 1), ((3, -2),))
        self.assertEqual(kernel(((2, 0), (4, 0)), 2), ((2, -1),))
        self.assertEqual(kernel(((), ()), 0), ((1, 0), (0, 1)))
        self.assertEqual(kernel((), 3), ())
        self.assertEqual(kernel([(0, 0), (0, 0)], 2), ((1, 0), (0, 1)))

    def test_kernel(self):
        chance = seeded(8)
        for rows, width in samples(chance, 200):
            found = kernel(rows, width)
            self.assertTrue(is_reduced(found, len(rows)))
            self.assertEqual(len(found), len(rows) - len(span(rows, width)))
            for x in found:
                self.assertEqual(moved(x, rows, width), (0,) * width)
            # A multiple in the kernel has its row in it: the reduced table of kernel and multiples alike.
            for x in boxes(len(rows), 3):
                self.assertEqual(holds(found, x), moved(x, rows, width) == (0,) * width)
                self.assertEqual(holds(found, x), holds(found, scaled(x, 6)))

    def test_solve_by_hand(self):
        self.assertEqual(solve(((2, 0), (0, 3)), 2, (4, 3)), (2, 1))
        self.assertIsNone(solve(((2, 0), (0, 3)), 2, (4, 2)))
        self.assertIsNone(solve((), 2, (0, 1)))
        self.assertEqual(solve((), 2, (0, 0)), ())
        self.assertEqual(moved(solve([(), ()], 0, ()), ((), ()), 0), ())
        self.assertEqual(len(solve(((), ()), 0, ())), 2)

    def test_solve(self):
        chance = seeded(9)
        for rows, width in samples(chance, 250):
            x = random_rows(chance, 1, len(rows), 5)[0]
            b = moved(x, rows, width)
            found = solve(rows, width, b)
            self.assertTrue(is_row(found, len(rows)))
            self.assertEqual(moved(found, rows, width), b)
            other = random_rows(chance, 1, width, 3)[0]
            found = solve(rows, width, other)
            if found is None:
                self.assertFalse(holds(span(rows, width), other))
            else:
                self.assertEqual(moved(found, rows, width), other)

    def test_many_rows_end_soon(self):
        rows = random_rows(seeded(10), 200, 40, 9)
        self.assertEqual(span(rows, 40), unit_matrix(40))
        found = kernel(rows[:60], 40)
        self.assertEqual(len(found), 20)
        self.assertEqual(times(found, rows[:60], 40), zero_matrix(20, 40))
