"""The pages of filtered complexes, their maps, and what they leave (points 10.2 to 10.6)."""

from tests.helper import (
    ODD, Case, Levelled, boxes, plainly_row, random_pieces, random_rows, seeded, some_levelled)
from tests.test_filtered import some_products
from cyclebounds.complexes import Complex
from cyclebounds.filtered import Filtered, part_of
from cyclebounds.group import Group, are_isomorphic
from cyclebounds.homology import boundaries, class_of, cycle_of, homology, is_cycle
from cyclebounds.maps import group_of, quotient_of
from cyclebounds.pages import (
    last_page, level_part, near_boundaries, near_cycles, next_page, page, page_class, page_map)
from cyclebounds.rows import add, coordinates, holds, is_reduced, moved, scaled, span
from cyclebounds.smith import chained
from cyclebounds.subgroup import Subgroup

TWO = Complex(0, (1, 1), (((2,),),))
NOTHING = Filtered(Complex(7, (), ()), ())
PIECE = Filtered(TWO, ((1,), (4,)))


def levels_of(f, n):
    index = n - f.complex.low
    return f.levels[index] if 0 <= index < len(f.levels) else ()


def is_inside(f, p, n, x):
    """Whether a row is in F_p."""
    return all(item == 0 or level <= p for item, level in zip(x, levels_of(f, n)))


def is_near(f, r, p, n, x):
    return is_inside(f, p, n, x) and is_inside(f, p - r, n - 1, f.complex.turned(n, x))


def expected_page(pieces, r, p, n):
    """The invariants of a page, piece by piece (point 10.7)."""
    sizes, rank = [], 0
    for at, s, low, high in pieces:
        if s == 0:
            rank += (at, low) == (n, p)
        elif r <= high - low:
            rank += (at, low) == (n, p)
            rank += (at + 1, high) == (n, p)
        elif (at, low) == (n, p):
            sizes.append(s)
    return tuple(size for size in chained(sizes) if size > 1), rank


def some_filtered(number, count):
    chance = seeded(number)
    for found in some_levelled(chance, count):
        yield chance, found.filtered
    for f in some_products(chance, count // 2):
        yield chance, f


def some_places(number, count, most_page=11):
    """Filtered complexes with some numbers r, p, n."""
    for chance, f in some_filtered(number, count):
        c = f.complex
        for _ in range(6):
            n = chance.randint(c.low - 2, c.low + len(c.ranks) + 1)
            yield chance, f, chance.randint(0, most_page), chance.randint(-3, 12), n


class Lattices(Case):
    def test_near_cycles(self):
        for chance, f, r, p, n in some_places(170, 50):
            table = near_cycles(f, r, p, n)
            self.assertTrue(is_reduced(table, f.complex.rank(n)))
            for row in table:
                self.assertTrue(is_near(f, r, p, n, row))
            for x in random_rows(chance, 4, f.complex.rank(n), 2) + tuple(boxes(min(f.complex.rank(n), 3), 2)):
                if len(x) == f.complex.rank(n):
                    self.assertEqual(holds(table, x), is_near(f, r, p, n, x))

    def test_near_boundaries(self):
        for chance, f, r, p, n in some_places(171, 50):
            c, table = f.complex, near_boundaries(f, r, p, n)
            self.assertTrue(is_reduced(table, c.rank(n)))
            above = near_cycles(f, r, p, n)
            self.assertTrue(all(holds(above, row) for row in table))
            if r > 0:
                ahead, upper = near_cycles(f, r - 1, p - 1, n), near_cycles(f, r - 1, p + r - 1, n + 1)
                self.assertEqual(table, span(ahead + tuple(c.turned(n + 1, y) for y in upper), c.rank(n)))
            else:
                units = [row for row in above if is_inside(f, p - 1, n, row)]
                self.assertEqual(table, span(units, c.rank(n)))

    def test_group_and_classes(self):
        for chance, f, r, p, n in some_places(172, 50):
            group, table = page(f, r, p, n), near_cycles(f, r, p, n)
            self.assertIsInstance(group, Group)
            self.assertEqual(group, Group(len(table), [coordinates(table, row) for row in near_boundaries(f, r, p, n)]))
            for x in random_rows(chance, 3, group.n, 3):
                row = moved(x, table, f.complex.rank(n))
                self.assertEqual(page_class(f, r, p, n, row), group.normal(x))
                for other in near_boundaries(f, r, p, n):
                    self.assertEqual(page_class(f, r, p, n, add(row, scaled(other, 3))), group.normal(x))

    def test_page_0(self):
        for _, f in some_filtered(173, 40):
            for n in f.complex.degrees():
                for p in range(-2, 12):
                    self.assertEqual(page(f, 0, p, n).invariants(), ((), levels_of(f, n).count(p)))

    def test_page_1_is_the_homology_of_the_part(self):
        for _, f in some_filtered(174, 40):
            for n in f.complex.degrees():
                for p in range(-2, 12):
                    self.assertTrue(are_isomorphic(page(f, 1, p, n), homology(part_of(f, p), n)))

    def test_known_pieces(self):
        chance = seeded(175)
        for found in some_levelled(chance, 40):
            for n in found.complex.degrees():
                for r in (0, 1, 2, 3, 5, 9, 10, 11, 30):
                    for p in range(-1, 11):
                        self.assertEqual(page(found.filtered, r, p, n).invariants(), expected_page(found.pieces, r, p, n))

    def test_by_hand(self):
        f = Filtered(TWO, ((1,), (4,)))
        for r in range(13):
            above, below = page(f, r, 4, 1), page(f, r, 1, 0)
            self.assertEqual(above.invariants(), ((), 1 if r <= 3 else 0))
            self.assertEqual(below.invariants(), ((), 1) if r <= 3 else ((2,), 0))
        self.assertEqual(page_map(f, 3, 4, 1).matrix, ((2,),))
        self.assertEqual(near_cycles(f, 4, 4, 1), ())
        self.assertEqual(near_boundaries(f, 4, 1, 0), ((2,),))
        self.assertEqual(near_boundaries(f, 3, 1, 0), ())


class PageMaps(Case):
    def test_maps(self):
        for chance, f, r, p, n in some_places(176, 60):
            c, found = f.complex, page_map(f, r, p, n)
            self.assertEqual((found.source, found.target), (page(f, r, p, n), page(f, r, p - r, n - 1)))
            for x in random_rows(chance, 2, found.source.n, 3):
                row = moved(x, near_cycles(f, r, p, n), c.rank(n))
                self.assertEqual(found.value(x), page_class(f, r, p - r, n - 1, c.turned(n, row)))
            self.assertTrue(found.then(page_map(f, r, p - r, n - 1)).is_zero())

    def test_next_page(self):
        for chance, f, r, p, n in some_places(177, 80, 10):
            self.check_next(chance, f, r, p, n)

    def check_next(self, chance, f, r, p, n):
        found = next_page(f, r, p, n)
        self.assertIs(type(found), tuple)
        group, onto = found
        kernel, into = group_of(page_map(f, r, p, n).kernel())
        coming = page_map(f, r, p + r, n + 1).image()
        inside = [x for x in boxes(kernel.n, 3) if coming.holds(into.value(x))]
        expected, back = quotient_of(Subgroup(kernel, lattice_inside(into, coming)))
        self.assertEqual(group, expected)
        for x in inside:
            self.assertEqual(back.value(x), (0,) * group.n)
        self.assertEqual((onto.source, onto.target), (page(f, r + 1, p, n), group))
        self.assertTrue(onto.is_one_to_one() and onto.is_onto())
        for x in random_rows(chance, 2, onto.source.n, 3):
            row = moved(x, near_cycles(f, r + 1, p, n), f.complex.rank(n))
            element = page_class(f, r, p, n, row)
            inner = coordinates(page_map(f, r, p, n).kernel().rows, element)
            self.assertEqual(onto.value(x), group.normal(inner))

    def test_far_pages(self):
        for f in (PIECE, NOTHING):
            for r in (0, 3, 10, 11, 10 ** 30):
                for p in (-10 ** 30, -1, 0, 1, 4, 9, 10, 10 ** 30):
                    for n in (-10 ** 30, -1, 0, 1, 2, 10 ** 30):
                        self.check_next(seeded(1), f, r, p, n)

    def test_large(self):
        chance = seeded(178)
        pieces = []
        for n, s in random_pieces(chance, 13, 8, 200, (0, 1, 2, 6)):
            levels = sorted(chance.randint(0, 9) for _ in range(2))
            pieces.append((n, s, *levels))
        found = Levelled(chance, 13, 8, pieces, 60)
        f = found.filtered
        for n in f.complex.degrees():
            for p in range(10):
                for r in (1, 4):
                    group, onto = next_page(f, r, p, n)
                    self.assertEqual(group.invariants(), expected_page(pieces, r + 1, p, n))
                    self.assertTrue(onto.is_one_to_one() and onto.is_onto())
                self.assertEqual(last_page(f, p, n)[0].invariants(), expected_page(pieces, 10, p, n))


def lattice_inside(into, subgroup):
    """The lattice of the rows of the elements that a map takes into a subgroup."""
    return into.then(quotient_of(subgroup)[1]).kernel().rows


class LastPages(Case):
    def check_last(self, chance, f, p, n):
        c = f.complex
        part, below = level_part(f, p, n), level_part(f, p - 1, n)
        group, onto = last_page(f, p, n)
        own, into = group_of(part)
        self.assertEqual(group, quotient_of(Subgroup(own, lattice_inside(into, below)))[0])
        self.assertEqual((onto.source, onto.target), (page(f, 10, p, n), group))
        self.assertTrue(onto.is_one_to_one() and onto.is_onto())
        if p > 9:
            self.assertEqual(group.order(), 1)
            return
        for x in random_rows(chance, 2, onto.source.n, 3):
            z = moved(x, near_cycles(f, 10, p, n), c.rank(n))
            self.assertTrue(is_cycle(c, n, z))
            inner = coordinates(part.rows, class_of(c, n, z))
            self.assertEqual(onto.value(x), group.normal(inner))

    def test_last_pages(self):
        for chance, f, _, p, n in some_places(179, 60):
            self.check_last(chance, f, p, n)

    def test_far_levels(self):
        for f in (PIECE, NOTHING, Filtered(Complex(0, (1, 1), (((0,),),)), ((9,), (9,)))):
            for p in (-10 ** 30, -2, -1, 0, 1, 4, 8, 9, 10, 11, 10 ** 30):
                for n in (-10 ** 30, -1, 0, 1, 2, 10 ** 30):
                    self.check_last(seeded(2), f, p, n)

    def test_parts_of_the_homology(self):
        for chance, f, _, p, n in some_places(180, 60):
            c = f.complex
            part, group = level_part(f, p, n), homology(c, n)
            self.assertIsInstance(part, Subgroup)
            self.assertEqual(part.group, group)
            self.assertTrue(level_part(f, p - 1, n).is_inside(part))
            if p < 0:
                self.assertEqual(part.rows, group.relations)
            if p > 8:
                self.assertEqual(part.index(), 1)
            for x in random_rows(chance, 3, group.n, 2):
                z = cycle_of(c, n, x)
                # Some cycle of the class is in F_p: the class has a row without items above p.
                chosen = [i for i, level in enumerate(levels_of(f, n)) if level > p]
                bounding = span([[row[i] for i in chosen] for row in boundaries(c, n)], len(chosen))
                self.assertEqual(part.holds(x), holds(bounding, tuple(z[i] for i in chosen)))

    def test_nothing_changes_from_the_page_10_on(self):
        for _, f, r, p, n in some_places(181, 30):
            if 0 <= p <= 9:
                self.assertEqual(page(f, 10 + r, p, n), page(f, 10, p, n))
            else:
                self.assertEqual(page(f, 10 + r, p, n).order(), 1)

    def test_steady_pages_stay(self):
        for _, f, r, p, n in some_places(182, 30):
            steady = f.steady()
            self.assertTrue(are_isomorphic(page(f, steady + r, p, n), page(f, steady, p, n)))
            self.assertTrue(page_map(f, steady + r, p, n).is_zero())
            self.assertTrue(are_isomorphic(page(f, max(steady, 1), p, n), last_page(f, p, n)[0]))


class Wrong(Case):
    def test_malformed(self):
        three = (near_cycles, near_boundaries, page, page_map, next_page)
        for value in ODD:
            whole = type(value) is int
            for call in three:
                if not whole or value < 0:
                    self.malformed(call, PIECE, value, 1, 0)
                if not whole:
                    self.malformed(call, PIECE, 1, value, 0)
                    self.malformed(call, PIECE, 1, 1, value)
                    self.malformed(call, NOTHING, 1, 1, value)
            if not whole or value < 0:
                self.malformed(page_class, PIECE, value, 1, 0, (0,))
            for call in (level_part, last_page):
                if not whole:
                    self.malformed(call, PIECE, value, 0)
                    self.malformed(call, PIECE, 1, value)
            if not whole:
                self.malformed(page_class, PIECE, 1, value, 0, (0,))
                self.malformed(page_class, PIECE, 1, 1, value, (0,))

    def test_no_near_cycles(self):
        for f, r, p, n in ((PIECE, 3, 4, 1), (PIECE, 4, 4, 1), (PIECE, 0, 3, 1), (PIECE, 2, 1, 0), (PIECE, 0, 0, 0),
                           (NOTHING, 0, 0, 0)):
            for value in ODD + ((0,), (5,), [0], (0, 0)):
                if plainly_row(value, f.complex.rank(n)) and is_near(f, r, p, n, value):
                    self.assertIsInstance(page_class(f, r, p, n, value), tuple)
                else:
                    self.malformed(page_class, f, r, p, n, value)
