"""Complexes, their texts and Euler numbers, and those made of others (points 6.1, 6.2, 6.4 and 6.9)."""

from itertools import product

from tests.helper import GREAT, ODD, Case, plainly_row, plainly_rows, random_rows, seeded, some_complexes
from cyclebounds.complexes import Complex, dual, moved_by, read_complex, sum_of_complexes
from cyclebounds.homology import boundaries, cycles, homology
from cyclebounds.rows import dot, moved, transposed, unit_row

ROUND = Complex(0, (1, 1, 1), (((0,),), ((2,),)))


def plainly_naturals(value):
    return type(value) in (list, tuple) and all(type(item) is int and item >= 0 for item in value)


def zeros(ranks):
    """Boundaries of zeros between these ranks."""
    return [[[0] * width for _ in range(size)] for width, size in zip(ranks, ranks[1:])]


class Making(Case):
    def test_fields(self):
        c = Complex(-2, [2, 1], [[[1, -1]]])
        self.assertEqual((c.low, c.ranks, c.boundaries), (-2, (2, 1), (((1, -1),),)))
        c = Complex(3, [], ())
        self.assertEqual((c.low, c.ranks, c.boundaries), (3, (), ()))
        c = Complex(0, (0, 2, 0), [((), []), ()])
        self.assertEqual((c.low, c.ranks, c.boundaries), (0, (0, 2, 0), (((), ()), ())))
        c = Complex(20, (12,), ())
        self.assertEqual((c.low, c.ranks, c.boundaries), (20, (12,), ()))

    def test_malformed(self):
        for value in ODD:
            if type(value) is not int:
                self.malformed(Complex, value, (), ())
                self.malformed(Complex, value, (13,), ())
            if not plainly_naturals(value):
                self.malformed(Complex, 0, value, ())
                self.malformed(Complex, 99, value, ())
            if type(value) not in (list, tuple) or value:
                self.malformed(Complex, 0, (), value)
                self.malformed(Complex, 0, (1,), value)
                self.malformed(Complex, 99, (13,), value)
            if not (plainly_rows(value, 2) and len(value) == 1):
                self.malformed(Complex, 0, (2, 1), (value,))
            else:
                self.assertIsInstance(Complex(0, (2, 1), (value,)), Complex)
            if not (plainly_rows(value, 0) and len(value) == 2):
                self.malformed(Complex, 0, (0, 2), [value])
        self.malformed(Complex, 0, (1, -1), ((),))
        self.malformed(Complex, 0, (1, True), (((0,),),))
        self.malformed(Complex, 0, (1, 1), (((True,),),))
        self.malformed(Complex, 0, (1, 1), (((1,),), ((0,),)))
        self.malformed(Complex, 0, (1, 1, 1), (((1,),),))
        self.malformed(Complex, 0, (2, 1), (((1,), (1,)),))

    def test_large(self):
        self.assertEqual(Complex(-20, (12,) * 8, zeros((12,) * 8)).ranks, (12,) * 8)
        self.assertEqual(Complex(20, (0, 12, 0), zeros((0, 12, 0))).degrees(), (20, 21, 22))
        self.refused("large", Complex, -21, (), ())
        self.refused("large", Complex, 21, (), ())
        self.refused("large", Complex, GREAT, (1,), ())
        self.refused("large", Complex, -GREAT, (1,), ())
        self.refused("large", Complex, 0, (13,), ())
        self.refused("large", Complex, 0, (0, 13), zeros((0, 13)))
        self.refused("large", Complex, 0, (GREAT,), ())
        self.refused("large", Complex, 0, (GREAT, 0), ((),))
        self.refused("large", Complex, 0, (0,) * 9, zeros((0,) * 9))
        self.refused("large", Complex, 0, [1] * 9, zeros([1] * 9))

    def test_boundaries_come_last(self):
        good = (((1,), (1,)), ((1, -1), (2, -2)))
        self.assertEqual(Complex(0, (1, 2, 2), good).boundaries, good)
        bad = (((1,), (1,)), ((1, -1), (2, -1)))
        self.refused("boundary", Complex, 0, (1, 2, 2), bad)
        self.refused("boundary", Complex, 0, (1, 1, 1), (((2,),), ((3,),)))
        self.refused("boundary", Complex, 0, (1, 1, 1, 1), (((0,),), ((2,),), ((3,),)))
        self.refused("large", Complex, 21, (1, 2, 2), bad)
        self.refused("large", Complex, 0, (0,) * 5 + (1, 2, 2, 0), zeros((0,) * 5 + (1,)) + list(bad) + [()])
        self.malformed(Complex, 0, (1, 2, 2), (((1,), (1,)), ((1, -1), (2, None))))

    def test_lists_of_the_caller_are_not_kept(self):
        ranks, rows = [1, 1], [[[2]]]
        c = Complex(0, ranks, rows)
        ranks.append(1)
        rows[0][0][0] = 5
        self.assertEqual((c.ranks, c.boundaries), ((1, 1), (((2,),),)))

    def test_equality(self):
        self.assertTrue(ROUND == Complex(0, [1, 1, 1], [[[0]], [[2]]]))
        for other in (Complex(1, (1, 1, 1), (((0,),), ((2,),))), Complex(0, (1, 1, 1), (((0,),), ((-2,),))),
                      Complex(0, (1, 1), (((0,),),)), Complex(0, (1, 1, 1, 0), (((0,),), ((2,),), ()))):
            self.assertFalse(ROUND == other)
            self.assertTrue(ROUND != other)
        self.assertFalse(Complex(0, (), ()) == Complex(1, (), ()))
        self.assertFalse(Complex(0, (1,), ()) == Complex(0, (2,), ()))
        self.assertFalse(Complex(0, (1, 0), ((),)) == Complex(0, (2, 0), ((),)))
        for value in ODD:
            self.assertIs(ROUND == value, False)


class Reading(Case):
    def test_ranks_and_boundaries_in_all_degrees(self):
        c = Complex(-1, (2, 1, 0, 3), (((1, -1),), (), ((), (), ())))
        self.assertEqual([c.rank(n) for n in range(-4, 5)], [0, 0, 0, 2, 1, 0, 3, 0, 0])
        self.assertEqual([c.boundary(n) for n in range(-3, 5)],
                         [(), (), ((), ()), ((1, -1),), (), ((), (), ()), (), ()])
        self.assertEqual(c.degrees(), (-1, 0, 1, 2))
        for n in (GREAT, -GREAT):
            self.assertEqual((c.rank(n), c.boundary(n)), (0, ()))
        empty = Complex(5, (), ())
        self.assertEqual(empty.degrees(), ())
        self.assertEqual([empty.rank(n) for n in range(3, 8)], [0] * 5)
        self.assertEqual([empty.boundary(n) for n in range(3, 8)], [()] * 5)

    def test_shapes(self):
        for c, _ in some_complexes(seeded(60), 60):
            for n in range(c.low - 3, c.low + len(c.ranks) + 3):
                self.assertEqual(len(c.boundary(n)), c.rank(n))
                self.assertTrue(all(plainly_row(row, c.rank(n - 1)) for row in c.boundary(n)))

    def test_rows(self):
        c = Complex(0, (2, 1, 3), (((1, -1),), ((0,), (0,), (0,))))
        for n in (-GREAT, -1, 0, 1, 2, 3):
            self.same_truth(lambda value, n=n: c.is_row(n, value),
                            lambda value, n=n: plainly_row(value, c.rank(n)), ODD + ((0, GREAT), (0, 0, 0)))

    def test_turned(self):
        c = Complex(0, (2, 2, 1), (((1, -1), (2, -2)), ((-2, 1),)))
        self.assertEqual(c.turned(1, (3, 1)), (5, -5))
        self.assertEqual(c.turned(2, (GREAT,)), (-2 * GREAT, GREAT))
        self.assertEqual(c.turned(0, (3, 1)), ())
        self.assertEqual(c.turned(3, ()), (0,))
        self.assertEqual(c.turned(4, ()), ())
        self.assertEqual(c.turned(-1, ()), ())
        for c, _ in some_complexes(seeded(61), 40):
            for n in range(c.low - 2, c.low + len(c.ranks) + 2):
                for x in random_rows(seeded(62), 3, c.rank(n), 9):
                    found = c.turned(n, x)
                    self.assertEqual(found, tuple(dot(x, column) for column in transposed(c.boundary(n), c.rank(n - 1))))
                    self.assertFalse(any(c.turned(n - 1, found)))

    def test_euler(self):
        self.assertEqual(ROUND.euler(), 1)
        self.assertEqual(Complex(-3, (5, 2), zeros((5, 2))).euler(), -3)
        self.assertEqual(Complex(0, (), ()).euler(), 0)
        for c, _ in some_complexes(seeded(63), 40):
            ranks = [(n, homology(c, n).invariants()[1]) for n in range(c.low - 1, c.low + len(c.ranks) + 1)]
            self.assertEqual(c.euler(), sum(rank if n % 2 == 0 else -rank for n, rank in ranks))
            for n in c.degrees():
                self.assertEqual(c.rank(n), len(cycles(c, n)) + len(boundaries(c, n - 1)))


class Texts(Case):
    KNOWN = (
        (Complex(0, (2, 1), (((1, -1),),)), "0: 2 1; 1 -1"),
        (ROUND, "0: 1 1 1; 0; 2"),
        (Complex(-20, (), ()), "-20:"),
        (Complex(0, (), ()), "0:"),
        (Complex(20, (12,), ()), "20: 12"),
        (Complex(-1, (0,), ()), "-1: 0"),
        (Complex(1, (0, 2, 0, 0, 1), (((), ()), (), (), ((),))), "1: 0 2 0 0 1; ., .; -; -; ."),
        (Complex(0, (2, 2), (((1, -10), (0, 3)),)), "0: 2 2; 1 -10, 0 3"),
    )

    def test_texts(self):
        for c, text in self.KNOWN:
            self.assertEqual(str(c), text)
            self.assertTrue(read_complex(text) == c)

    def test_others(self):
        for c, _ in some_complexes(seeded(64), 100):
            self.assertTrue(read_complex(str(c)) == c)

    def test_no_texts(self):
        for value in ODD:
            self.no_text(read_complex, value)
        for text in (
                "", ":", "0", "0 :", " 0:", "0: ", "0:1", "0:  1", "0: 1 ", "+0: 1", "-0: 1", "00: 1", "0: 01", "0: -1", "x: 1",
                "0: 1;", "0: 1; ", "0: 1; 2", "0: 1 1", "0: 1 1;", "0: 1 1; ", "0: 1 1;2", "0: 1 1; 02", "0: 1 1; -0",
                "0: 1 1; +2", "0: 1 1; 2 ", "0: 1 1; 2, 2", "0: 1 1; 2 2", "0: 1 1; .", "0: 1 1; -", "0: 1 1; 2; 2",
                "0: 1 1; 2\n", "0: 1 1 1; 0", "0: 0 1; 0", "0: 0 1; ", "0: 0 1; -", "0: 0 1; ., .", "0: 0 0; .", "0: 1 0; .",
                "0: 1 0; ", "0: 2 2; 1 2,3 4", "0: 2 2; 1 2 , 3 4", "0: 2 2; 1 2, 3 4, 5 6", "0: 1.0", "0: 1 1; 2.0",
                "0: \u00b2", "0: 1 1; \u00b2", "\u0660: 1", "0:\u00a01", "0: 1 1; 2\ud800", "0: 1_0", "0: 1 1; 1_0",
                "; 0: 1", "0:; ", "0:;", "0: ; ", "0:: 1", "0: 1: 1"):
            self.no_text(read_complex, text)

    def test_no_texts_of_refused_complexes(self):
        for text in ("21: 1", "-21: 1", "21:", "0: 13", "0: 0 0 0 0 0 0 0 0 0; -; -; -; -; -; -; -; -", "0: 1 1 1; 2; 3",
                     f"{GREAT}: 1", f"0: {GREAT}", f"0: {10 ** 1900}"):
            self.no_text(read_complex, text)
        self.assertEqual(read_complex("0: 0 0 0 0 0 0 0 0; -; -; -; -; -; -; -").ranks, (0,) * 8)

    def test_texts_of_2000_signs_and_more(self):
        for size, short in ((2000, True), (2001, False)):
            number = 10 ** (size - len("0: 1 1; ") - 1)
            c = Complex(0, (1, 1), (((number,),),))
            self.assertEqual(len(str(c)), size)
            if short:
                self.assertTrue(read_complex(str(c)) == c)
            else:
                self.no_text(read_complex, str(c))

    def test_each_small_text(self):
        # Every text of a few signs is either refused or the text of what was read.
        many = 0
        for signs in product("0: ;-.,1", repeat=5):
            text = "".join(signs)
            try:
                found = read_complex(text)
            except ValueError:
                continue
            many += 1
            self.assertEqual(str(found), text)
        self.assertGreater(many, 5)


class MadeOfOthers(Case):
    def test_moved(self):
        self.assertEqual(moved_by(ROUND, 1), Complex(1, (1, 1, 1), (((0,),), ((-2,),))))
        self.assertEqual(moved_by(ROUND, -3), Complex(-3, (1, 1, 1), (((0,),), ((-2,),))))
        self.assertEqual(moved_by(ROUND, -4), Complex(-4, (1, 1, 1), (((0,),), ((2,),))))
        self.assertEqual(moved_by(ROUND, 0), ROUND)
        self.assertEqual(moved_by(Complex(3, (), ()), -5), Complex(-2, (), ()))
        for c, _ in some_complexes(seeded(65), 40):
            for k in (-7, -2, 0, 1, 4):
                moved_one = moved_by(c, k)
                for n in range(c.low - 2, c.low + len(c.ranks) + 2):
                    self.assertEqual(moved_one.rank(n + k), c.rank(n))
                    self.assertEqual(moved_one.boundary(n + k), tuple(
                        tuple((-1) ** abs(k) * item for item in row) for row in c.boundary(n)))

    def test_dual(self):
        self.assertEqual(dual(ROUND), Complex(-2, (1, 1, 1), (((2,),), ((0,),))))
        self.assertEqual(dual(Complex(0, (2, 1), (((1, -1),),))), Complex(-1, (1, 2), (((1,), (-1,)),)))
        self.assertEqual(dual(Complex(0, (0, 2), (((), ()),))), Complex(-1, (2, 0), ((),)))
        self.assertEqual(dual(Complex(3, (), ())), Complex(-3, (), ()))
        self.assertEqual(dual(Complex(3, (4,), ())), Complex(-3, (4,), ()))
        for c, _ in some_complexes(seeded(66), 60):
            other = dual(c)
            self.assertEqual(dual(other), c)
            self.assertEqual(other.degrees(), tuple(-n for n in reversed(c.degrees())))
            for n in range(c.low - 2, c.low + len(c.ranks) + 2):
                self.assertEqual(other.rank(-n), c.rank(n))
                self.assertEqual(other.boundary(-n), transposed(c.boundary(n + 1), c.rank(n)))

    def test_sums(self):
        a, b = Complex(0, (1, 1), (((2,),),)), Complex(1, (1, 1), (((3,),),))
        self.assertEqual(sum_of_complexes(a, b), Complex(0, (1, 2, 1), (((2,), (0,)), ((0, 3),))))
        self.assertEqual(sum_of_complexes(b, a), Complex(0, (1, 2, 1), (((0,), (2,)), ((3, 0),))))
        self.assertEqual(sum_of_complexes(a, Complex(4, (1,), ())),
                         Complex(0, (1, 1, 0, 0, 1), (((2,),), (), (), ((),))))
        self.assertEqual(sum_of_complexes(a, Complex(9, (), ())), a)
        self.assertEqual(sum_of_complexes(Complex(9, (), ()), a), a)
        self.assertEqual(sum_of_complexes(Complex(9, (), ()), Complex(-9, (), ())), Complex(-9, (), ()))
        self.assertEqual(sum_of_complexes(Complex(2, (0,), ()), Complex(0, (0,), ())), Complex(0, (0, 0, 0), ((), ())))
        found = [c for c, _ in some_complexes(seeded(67), 60)]
        for c, d in zip(found, found[1:]):
            try:
                total = sum_of_complexes(c, d)
            except ValueError:
                continue
            for n in range(min(c.low, d.low) - 2, max(c.low + len(c.ranks), d.low + len(d.ranks)) + 2):
                self.assertEqual(total.rank(n), c.rank(n) + d.rank(n))
                for i in range(c.rank(n)):
                    expected = c.boundary(n)[i] + (0,) * d.rank(n - 1)
                    self.assertEqual(total.turned(n, unit_row(total.rank(n), i)), expected)
                for i in range(d.rank(n)):
                    expected = (0,) * c.rank(n - 1) + d.boundary(n)[i]
                    self.assertEqual(moved(unit_row(total.rank(n), c.rank(n) + i), total.boundary(n), len(expected)), expected)

    def test_large(self):
        long, wide = Complex(-20, (1,) * 8, zeros((1,) * 8)), Complex(20, (7,), ())
        self.refused("large", moved_by, long, -1)
        self.refused("large", moved_by, long, 41)
        self.assertEqual(moved_by(long, 40).low, 20)
        self.refused("large", moved_by, wide, 1)
        self.refused("large", moved_by, Complex(20, (), ()), 1)
        self.refused("large", moved_by, wide, GREAT)
        self.refused("large", dual, moved_by(long, 34))
        self.assertEqual(dual(moved_by(long, 33)).low, -20)
        self.assertEqual(dual(long).low, 13)
        self.assertEqual(dual(Complex(-20, (12,), ())).low, 20)
        self.refused("large", sum_of_complexes, wide, wide)
        self.assertEqual(sum_of_complexes(wide, Complex(20, (5,), ())).ranks, (12,))
        self.refused("large", sum_of_complexes, wide, Complex(20, (6,), ()))
        self.refused("large", sum_of_complexes, wide, long)
        self.refused("large", sum_of_complexes, long, Complex(-12, (1,), ()))
        self.assertEqual(len(sum_of_complexes(long, Complex(-13, (1,), ())).ranks), 8)
