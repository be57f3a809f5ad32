"""Pieces, standard complexes and changes of bases (points 6.5 to 6.8)."""

from tests.helper import GREAT, Case, Pieced, chained_pieces, pieced, random_pieces, random_rows, seeded, some_complexes
from cyclebounds.complexes import Complex, dual, moved_by, sum_of_complexes
from cyclebounds.group import are_isomorphic
from cyclebounds.homology import homology
from cyclebounds.rows import is_matrix, times, unit_matrix
from cyclebounds.smith import is_turnable
from cyclebounds.standard import pieces, same_homology, standard, standard_complex

ROUND = Complex(0, (1, 1, 1), (((0,),), ((2,),)))


def written_standard(c, found):
    """The standard complex as point 6.7 writes it, end by end."""
    ends = {n: [] for n in c.degrees()}
    for at, (n, s) in enumerate(found):
        if s > 0:
            ends[n + 1].append((at, "high"))
    for at, (n, s) in enumerate(found):
        if s > 0:
            ends[n].append((at, "low"))
    for at, (n, s) in enumerate(found):
        if s == 0:
            ends[n].append((at, "low"))
    boundaries = []
    for n in c.degrees()[1:]:
        boundaries.append([[found[at][1] if end == "high" and other == (at, "low") else 0 for other in ends[n - 1]]
                           for at, end in ends[n]])
    return Complex(c.low, [len(ends[n]) for n in c.degrees()], boundaries)


class Pieces(Case):
    def test_by_hand(self):
        self.assertEqual(pieces(ROUND), ((0, 0), (1, 2)))
        self.assertEqual(pieces(Complex(0, (), ())), ())
        self.assertEqual(pieces(Complex(7, (0, 0), ((),))), ())
        self.assertEqual(pieces(Complex(-20, (3,), ())), ((-20, 0),) * 3)
        self.assertEqual(pieces(Complex(3, (1, 1), (((-5,),),))), ((3, 5),))
        self.assertEqual(pieces(Complex(3, (1, 1), (((0,),),))), ((3, 0), (4, 0)))
        self.assertEqual(pieces(Complex(0, (2, 2), (((2, 0), (0, 3)),))), ((0, 1), (0, 6)))
        self.assertEqual(pieces(Complex(0, (3, 2), (((4, 0, 0), (0, 6, 0)),))), ((0, 2), (0, 12), (0, 0)))
        self.assertEqual(pieces(Complex(0, (1, 1), (((GREAT,),),))), ((0, GREAT),))

    def test_known_pieces_in_other_bases(self):
        for c, known in some_complexes(seeded(80), 150):
            self.assertEqual(pieces(c), known)
            for n in range(c.low - 1, c.low + len(c.ranks) + 1):
                sizes = tuple(s for m, s in known if m == n and s > 1)
                self.assertEqual(homology(c, n).invariants(), (sizes, known.count((n, 0))))

    def test_moved_and_summed(self):
        found = list(some_complexes(seeded(81), 40))
        for (c, known), (d, others) in zip(found, found[1:]):
            self.assertEqual(pieces(moved_by(c, 3)), tuple((n + 3, s) for n, s in known))
            # A piece (n, s) is turned about to (- n - 1, s), a piece (n, 0) to (- n, 0).
            turned = [(-n - 1, s) if s else (-n, 0) for n, s in known]
            self.assertEqual(pieces(dual(c)), chained_pieces(turned))
            if max(len(c.ranks), len(d.ranks)) + abs(c.low - d.low) <= 8:
                self.assertEqual(pieces(sum_of_complexes(c, d)), chained_pieces(known + others))


class Standard(Case):
    def check_standard(self, c, known):
        plain = standard_complex(c)
        self.assertEqual((plain.low, plain.ranks), (c.low, c.ranks))
        self.assertEqual(plain, written_standard(c, known))
        changes, backs = standard(c)
        self.assertEqual((type(changes), type(backs)), (tuple, tuple))
        self.assertEqual((len(changes), len(backs)), (len(c.ranks), len(c.ranks)))
        below = ()
        for n, change, back in zip(c.degrees(), changes, backs):
            rank, width = c.rank(n), c.rank(n - 1)
            self.assertTrue(is_turnable(change, rank) and is_matrix(back, rank, rank))
            self.assertEqual(times(change, back, rank), unit_matrix(rank))
            self.assertEqual(times(back, change, rank), unit_matrix(rank))
            self.assertEqual(times(change, c.boundary(n), width), times(plain.boundary(n), below, width))
            below = change

    def test_by_hand(self):
        c = Complex(0, (2, 2, 1), (((2, 0), (0, 0)), ((0, 3),)))
        self.assertEqual(standard_complex(c), Complex(0, (2, 2, 1), (((2, 0), (0, 0)), ((0, 3),))))
        c = Complex(0, (2, 3, 2), (((0, 0), (0, 2), (0, 0)), ((0, 0, 3), (0, 0, 0))))
        # The degree 1 has first the upper end of (0, 2), then the lower one of (1, 3), then (1, 0).
        self.assertEqual(standard_complex(c), Complex(0, (2, 3, 2), (((2, 0), (0, 0), (0, 0)), ((0, 3, 0), (0, 0, 0)))))
        self.assertEqual(pieces(c), ((0, 2), (0, 0), (1, 3), (1, 0), (2, 0)))
        for empty in (Complex(5, (), ()), Complex(0, (0, 0), ((),))):
            self.assertEqual(standard_complex(empty), empty)
        self.assertEqual(standard(Complex(5, (), ())), ((), ()))
        self.assertEqual(standard(Complex(0, (0, 0), ((),))), (((), ()), ((), ())))

    def test_known_pieces_in_other_bases(self):
        for c, known in some_complexes(seeded(82), 150):
            self.check_standard(c, known)

    def test_eight_degrees_with_ranks_of_twelve(self):
        chance = seeded(83)
        for sizes, low, steps in (((1, 2, 3, 4, 6, 12), -20, 30), ((0, 1, 1, 5, 10), 20, 60), ((1,), 0, 40), ((0,), -3, 9),
                                  ((0, 2, GREAT), 1, 10)):
            many = random_pieces(chance, low, 8, 250, sizes)
            c = pieced(chance, low, 8, many, steps)
            self.assertEqual(max(c.ranks), 12)
            self.assertEqual(pieces(c), chained_pieces(many))
            self.check_standard(c, chained_pieces(many))

    def test_dense_boundaries(self):
        chance = seeded(84)
        for n, m, most in ((12, 12, 9), (12, 11, 10 ** 6), (7, 12, 10 ** 12), (12, 12, 10 ** 20)):
            c = Complex(0, (m, n), (random_rows(chance, n, m, most),))
            self.check_standard(c, pieces(c))


class SameHomology(Case):
    def test_against_homology(self):
        chance = seeded(85)
        seen = []
        for _ in range(150):
            low = chance.randint(-2, 0)
            # Few pieces of few kinds, so that some pairs are alike.
            one, two = (random_pieces(chance, low, 3, chance.randint(0, 3), (0, 1, 1, 2, 3, 6), 4) for _ in range(2))
            a, b = pieced(chance, low, 3, one), Pieced(chance, low - 1, 4, two).complex
            expected = all(are_isomorphic(homology(a, n), homology(b, n)) for n in range(-5, 5))
            self.assertIs(same_homology(a, b), expected)
            self.assertIs(same_homology(b, a), expected)
            seen.append(expected)
        self.assertGreater(seen.count(True), 10)
        self.assertGreater(seen.count(False), 10)

    def test_by_hand(self):
        nothing = Complex(9, (), ())
        self.assertIs(same_homology(nothing, Complex(0, (1, 1), (((1,),),))), True)
        self.assertIs(same_homology(nothing, Complex(0, (1, 1), (((-1,),),))), True)
        self.assertIs(same_homology(nothing, Complex(0, (1, 1), (((2,),),))), False)
        self.assertIs(same_homology(Complex(0, (1,), ()), Complex(1, (1,), ())), False)
        self.assertIs(same_homology(Complex(0, (1,), ()), Complex(-1, (0, 1, 0), (((),), ()))), True)
        two_and_three = Complex(0, (2, 2), (((2, 0), (0, 3)),))
        self.assertIs(same_homology(two_and_three, Complex(0, (1, 1), (((6,),),))), True)
        four = Complex(0, (1, 1), (((4,),),))
        self.assertIs(same_homology(four, Complex(0, (2, 2), (((2, 0), (0, 2)),))), False)
