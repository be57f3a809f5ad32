"""Integers, common divisors and combinations."""

from tests.helper import GREAT, ODD, Case, seeded
from cyclebounds.whole import combination, common_divisor, is_integer, read_integer


class Integers(Case):
    def test_is_integer(self):
        self.same_truth(is_integer, lambda value: type(value) is int, ODD)
        for value in (0, -5, GREAT, -GREAT):
            self.assertIs(is_integer(value), True)
        for value in (True, False, None, "1", (1,), [1]):
            self.assertIs(is_integer(value), False)

    def test_read_integer(self):
        for number in (0, 7, -7, 10, GREAT, -GREAT):
            self.assertEqual(read_integer(str(number)), number)
        for text in ("", "-", "-0", "00", "07", "-07", "+1", " 1", "1 ", "1_0", "1.0", "--1", "\u0661", "\u00b2", "a"):
            self.assertIsNone(read_integer(text), text)


class Divisors(Case):
    def test_common_divisor(self):
        self.assertEqual(common_divisor((4, 6)), 2)
        self.assertEqual(common_divisor([-4, 0, 6, 10]), 2)
        self.assertEqual(common_divisor(()), 0)
        self.assertEqual(common_divisor([]), 0)
        self.assertEqual(common_divisor((0, 0)), 0)
        self.assertEqual(common_divisor((-7,)), 7)
        self.assertEqual(common_divisor((6 * GREAT, -4 * GREAT)), 2 * GREAT)

    def test_combination(self):
        chance = seeded(1)
        pairs = [(a, b) for a in range(-12, 13) for b in range(-12, 13)]
        pairs += [(chance.randint(-GREAT, GREAT), chance.randint(-GREAT, GREAT)) for _ in range(50)]
        pairs += [(GREAT, 0), (0, -GREAT), (GREAT * 6, -GREAT * 4)]
        for a, b in pairs:
            found = combination(a, b)
            self.assertIsInstance(found, tuple)
            g, x, y = found
            self.assertEqual(g, common_divisor((a, b)))
            self.assertEqual(a * x + b * y, g)
