"""Divisors, the form of Smith, bars, determinants and inverses (points 1.2, 1.6 and 1.7)."""

from itertools import combinations, permutations

from tests.helper import GREAT, ODD, Case, random_rows, seeded
from cyclebounds.rows import dot, is_matrix, is_row, moved, solve, times, unit_matrix
from cyclebounds.smith import bar, determinant, divisors, inverse, is_turnable, smith
from cyclebounds.whole import common_divisor


def expanded(matrix):
    """The determinant as the sum over all orders of the columns."""
    n = len(matrix)
    total = 0
    for order in permutations(range(n)):
        turns = sum(order[i] > order[j] for i in range(n) for j in range(i + 1, n))
        product = (-1) ** turns
        for i in range(n):
            product *= matrix[i][order[i]]
        total += product
    return total


def by_minors(rows, width):
    """The divisors as quotients of the common divisors of all determinants of k rows and k columns."""
    found, last = [], 1
    for k in range(1, min(len(rows), width) + 1):
        minors = [expanded([[rows[i][j] for j in columns] for i in chosen])
                  for chosen in combinations(range(len(rows)), k) for columns in combinations(range(width), k)]
        now = common_divisor(minors)
        if now == 0:
            break
        found.append(now // last)
        last = now
    return tuple(found)


def samples(chance, count, most):
    for _ in range(count):
        n, width = chance.randint(0, most), chance.randint(0, most)
        rows = random_rows(chance, n, width, chance.choice((1, 3, 12)))
        # Rows times numbers, so that there are divisors above 1 and ranks below the greatest one.
        yield tuple(tuple(chance.choice((0, 1, 2, 6)) * item for item in row) for row in rows), width


class Forms(Case):
    def test_divisors_by_hand(self):
        self.assertEqual(divisors(((2, 0), (0, 3)), 2), (1, 6))
        self.assertEqual(divisors(((4, 0), (0, 6)), 2), (2, 12))
        self.assertEqual(divisors(((0, 0), (0, 0)), 2), ())
        self.assertEqual(divisors((), 3), ())
        self.assertEqual(divisors(((), ()), 0), ())
        self.assertEqual(divisors([(-4, -6)], 2), (2,))
        self.assertEqual(divisors(((GREAT, 0), (0, 2 * GREAT)), 2), (GREAT, 2 * GREAT))
        self.assertEqual(divisors(((6, 0, 0), (0, 10, 0), (0, 0, 15)), 3), (1, 30, 30))

    def test_divisors_against_determinants(self):
        for rows, width in samples(seeded(11), 150, 4):
            self.assertEqual(divisors(rows, width), by_minors(rows, width))

    def check_smith(self, rows, width):
        found = smith(rows, width)
        self.assertIsInstance(found, tuple)
        u, v, sizes = found
        n = len(rows)
        self.assertTrue(is_matrix(u, n, n) and is_matrix(v, width, width))
        self.assertEqual({abs(determinant(u)), abs(determinant(v))}, {1})
        self.assertEqual(sizes, divisors(rows, width))
        expected = tuple(tuple(sizes[i] if i == j and i < len(sizes) else 0 for j in range(width)) for i in range(n))
        self.assertEqual(times(times(u, rows, width), v, width), expected)
        self.assertTrue(all(size > 0 for size in sizes))
        self.assertTrue(all(high % low == 0 for low, high in zip(sizes, sizes[1:])))

    def test_smith(self):
        for rows, width in samples(seeded(12), 250, 5):
            self.check_smith(rows, width)

    def test_smith_at_the_edges(self):
        for rows, width in (((), 0), ((), 2), (((), ()), 0), (((0, 0),), 2), (((GREAT, 1 - GREAT), (5, GREAT ** 2)), 2),
                            ([(4, 0), (0, 6)], 2), (((0, 0), (0, -3)), 2)):
            self.check_smith(rows, width)

    def test_smith_of_great_tables_ends_soon(self):
        self.check_smith(random_rows(seeded(13), 30, 30, 9), 30)
        rows = tuple(tuple(6 * item for item in row) for row in random_rows(seeded(14), 12, 20, GREAT))
        self.check_smith(rows, 20)


class Bars(Case):
    def check(self, rows, width, b):
        found = bar(rows, width, b)
        self.assertEqual(found is None, solve(rows, width, b) is not None)
        if found is not None:
            self.assertIsInstance(found, tuple)
            t, m = found
            self.assertTrue(is_row(t, width))
            self.assertGreaterEqual(m, 2)
            self.assertTrue(all(dot(row, t) % m == 0 for row in rows))
            self.assertNotEqual(dot(b, t) % m, 0)

    def test_bar_by_hand(self):
        self.assertIsNone(bar(((2, 0), (0, 3)), 2, (4, 3)))
        self.assertIsNone(bar((), 2, (0, 0)))
        self.assertIsNone(bar(((), ()), 0, ()))
        for rows, b in (((), (0, 1)), (((2, 0), (0, 3)), (1, 0)), (((2, 4),), (1, 2)), (((0, 0),), (0, -5)),
                        (((1, 1),), (GREAT, GREAT + 1)), (((GREAT, 0),), (1, 0)), ([(6, 10)], (3, 5))):
            self.assertIsNotNone(bar(rows, 2, b))
            self.check(rows, 2, b)

    def test_bar_or_solution_and_never_both(self):
        chance = seeded(15)
        for rows, width in samples(chance, 300, 4):
            self.check(rows, width, random_rows(chance, 1, width, 6)[0])
            b = moved(random_rows(chance, 1, len(rows), 3)[0], rows, width)
            self.check(rows, width, b)
            self.check(rows, width, tuple(item // 2 for item in b))

    def test_bars_modulo_a_number_divide_it(self):
        # Point 7.4 rests on this: where the lattice has all multiples of s, m divides s.
        chance = seeded(16)
        for _ in range(100):
            s, width = chance.randint(2, 12), chance.randint(1, 3)
            rows = random_rows(chance, 2, width, s) + tuple(tuple(s * item for item in row) for row in unit_matrix(width))
            b = random_rows(chance, 1, width, s)[0]
            self.check(rows, width, b)
            found = bar(rows, width, b)
            self.assertTrue(found is None or s % found[1] == 0)


class Turnable(Case):
    def test_determinant(self):
        self.assertEqual(determinant(()), 1)
        self.assertEqual(determinant(((-5,),)), -5)
        self.assertEqual(determinant(((0, 1), (1, 0))), -1)
        self.assertEqual(determinant(((1, 2), (2, 4))), 0)
        self.assertEqual(determinant(((0, 0), (0, 0))), 0)
        self.assertEqual(determinant(((GREAT, 1), (1, GREAT))), GREAT ** 2 - 1)
        chance = seeded(17)
        for _ in range(150):
            n = chance.randint(0, 5)
            matrix = random_rows(chance, n, n, chance.choice((1, 5, GREAT)))
            self.assertEqual(determinant(matrix), expanded(matrix))

    def test_is_turnable(self):
        for value, n in (((), 0), (((1,),), 1), (((-1,),), 1), (((2, 1), (1, 1)), 2), (((0, 1), (1, 0)), 2)):
            self.assertIs(is_turnable(value, n), True)
        for value, n in ((((2,),), 1), (((0,),), 1), (((1, 2), (2, 4)), 2), ([(1,)], 1), (([1],), 1), (((True,),), 1),
                         (((1, 0),), 2), (((1, 0), (0, 1)), 3), (((1,), (1,)), 1), ((), 1)):
            self.assertIs(is_turnable(value, n), False)
        for n in range(3):
            for value in ODD:
                self.assertIsInstance(is_turnable(value, n), bool)

    def test_inverse(self):
        self.assertEqual(inverse(()), ())
        self.assertEqual(inverse(((2, 1), (1, 1))), ((1, -1), (-1, 2)))
        self.assertEqual(inverse(((1, GREAT), (0, -1))), ((1, GREAT), (0, -1)))
        chance = seeded(18)
        for _ in range(60):
            n = chance.randint(0, 6)
            u, v, _ = smith(random_rows(chance, n, n, 9), n)
            for matrix in (u, v):
                self.assertEqual(times(matrix, inverse(matrix), n), unit_matrix(n))
                self.assertEqual(times(inverse(matrix), matrix, n), unit_matrix(n))

    def test_inverse_refuses(self):
        for matrix in (((2,),), ((0,),), ((1, 2), (2, 4)), ((1, 0), (0, 3)), ((0, 0), (0, 0))):
            self.refused("inverse", inverse, matrix)
