"""Short rows, connecting maps, long rows, and the row of six groups of two rows of groups (chapter 8)."""

from tests.helper import (
    FINITE, GREAT, ODD, Case, Pieced, all_maps, chain_matrices, images_of, members, multiplied, random_pieces,
    random_rows, seeded, some_chain_maps, turnable)
from tests.test_maps import some_maps
from cyclebounds.chain import ChainMap, identity_chain, zero_chain
from cyclebounds.complexes import Complex, moved_by
from cyclebounds.cone import into_cone, out_of_cone
from cyclebounds.errors import Refused
from cyclebounds.exact import is_exact
from cyclebounds.group import Group, cyclic_group, free_group
from cyclebounds.homology import class_of, cycle_of, homology
from cyclebounds.long import ShortRow, cone_row, six_groups
from cyclebounds.maps import Map, group_of, identity_map, quotient_of, zero_map
from cyclebounds.rows import add, solve

LINE = Complex(0, (1,), ())
TWO = Complex(0, (1, 1), (((2,),),))
NOTHING = Complex(7, (), ())


def disguised_row(chance, f):
    """The short row of the cone of a chain map, the cone in some other bases."""
    into, out = into_cone(f), out_of_cone(f)
    c = into.target
    bases = [turnable(chance, rank, 5) for rank in c.ranks]
    boundaries = [multiplied(multiplied(bases[at + 1][0], rows, width), bases[at][1], width)
                  for at, (rows, width) in enumerate(zip(c.boundaries, c.ranks))]
    other = Complex(c.low, c.ranks, boundaries)
    ahead = ChainMap(c, other, [back for _, back in bases])
    return ShortRow(into.then(ahead), ChainMap(other, c, [rows for rows, _ in bases]).then(out))


def some_rows(number, count):
    """Pairs of a chain map and a short row that its cone gives."""
    chance = seeded(number)
    for f in some_chain_maps(chance, count):
        try:
            yield f, disguised_row(chance, f)
        except Refused:
            continue


def span_of_degrees(row):
    """The degrees of all three complexes and some beyond."""
    places = [n for c in (row.f.source, row.f.target, row.g.target) for n in (c.low, c.low + len(c.ranks))]
    return range(min(places) - 2, max(places) + 3)


class ShortRows(Case):
    def test_fields(self):
        f, g = into_cone(identity_chain(TWO)), out_of_cone(identity_chain(TWO))
        row = ShortRow(f, g)
        self.assertEqual((row.f, row.g), (f, g))

    def test_malformed(self):
        f, g = into_cone(identity_chain(TWO)), out_of_cone(identity_chain(TWO))
        for value in ODD:
            if not isinstance(value, ChainMap):
                self.malformed(ShortRow, value, g)
                self.malformed(ShortRow, f, value)
                self.malformed(ShortRow, value, value)
        self.malformed(ShortRow, g, f)
        self.malformed(ShortRow, f, identity_chain(LINE))
        # No short row either: Malformed comes first.
        self.malformed(ShortRow, zero_chain(TWO, LINE), identity_chain(TWO))
        self.malformed(ShortRow, zero_chain(TWO, TWO), zero_chain(LINE, LINE))

    def test_refused(self):
        plane = Complex(0, (2,), ())
        first, second = ChainMap(LINE, plane, (((1, 0),),)), ChainMap(plane, LINE, (((0,), (1,)),))
        self.assertIsNotNone(ShortRow(first, second))
        zero = zero_chain
        for f, g in (
                (first.scaled(2), second), (first, second.scaled(2)), (zero(LINE, plane), second),
                (first, zero(plane, LINE)), (ChainMap(LINE, plane, (((1, 1),),)), second),
                (first, ChainMap(plane, LINE, (((1,), (0,)),))), (first, identity_chain(plane)),
                (identity_chain(plane), second), (first, zero(plane, NOTHING)), (zero(NOTHING, plane), second),
                (zero(NOTHING, LINE), zero(LINE, NOTHING)), (identity_chain(LINE), identity_chain(LINE)),
                (zero(NOTHING, NOTHING), zero(NOTHING, LINE)), (zero(LINE, NOTHING), zero(NOTHING, NOTHING)),
                (zero(moved_by(LINE, 1), plane), second), (first, zero(plane, moved_by(LINE, -1))),
                (zero(Complex(-1, (1,), ()), LINE), zero(LINE, Complex(1, (1,), ()))),
                (ChainMap(LINE, LINE, (((2,),),)), zero(LINE, NOTHING)),
                (zero(NOTHING, LINE), ChainMap(LINE, LINE, (((3,),),))),
                (identity_chain(LINE).scaled(0), identity_chain(LINE))):
            self.refused("exact", ShortRow, f, g)

    def test_one_degree_of_several(self):
        c = Complex(0, (1, 1, 1), (((0,),), ((0,),)))
        for at in range(3):
            f = ChainMap(c, c, [((2 if at == n else 1,),) for n in range(3)])
            self.refused("exact", ShortRow, f, zero_chain(c, NOTHING))
            self.refused("exact", ShortRow, zero_chain(NOTHING, c), f)
            self.assertIsNotNone(ShortRow(-identity_chain(c), zero_chain(c, Complex(-3, (), ()))))

    def test_random_pairs(self):
        chance = seeded(120)
        found = []
        for _ in range(400):
            a, b, c = [Complex(0, (chance.randint(0, 2),), ()) for _ in range(3)]
            f = ChainMap(a, b, (random_rows(chance, a.rank(0), b.rank(0), 1),))
            g = ChainMap(b, c, (random_rows(chance, b.rank(0), c.rank(0), 1),))
            try:
                ShortRow(f, g)
                found.append(True)
            except Refused:
                found.append(False)
            self.assertEqual(found[-1], is_short(f, g))
        self.assertGreater(found.count(True), 20)


def is_short(f, g):
    """Whether two chain maps are a short row, looked at as maps of groups without relations."""
    one, two = [Map(free_group(h.source.rank(0)), free_group(h.target.rank(0)), h.matrix(0)) for h in (f, g)]
    return one.is_one_to_one() and two.is_onto() and is_exact(one, two)


class LongRows(Case):
    def check_connecting(self, row, n):
        """The connecting map by the words of point 8.2, for other choices as well."""
        a, b, c = row.f.source, row.f.target, row.g.target
        found = row.connecting(n)
        self.assertEqual((found.source, found.target), (homology(c, n), homology(a, n - 1)))
        chance = seeded(n + 50)
        for x in random_rows(chance, 2, found.source.n, 3):
            z = add(cycle_of(c, n, x), c.turned(n + 1, random_rows(chance, 1, c.rank(n + 1), 3)[0]))
            y = solve(row.g.matrix(n), c.rank(n), z)
            y = add(y, row.f.value(n, random_rows(chance, 1, a.rank(n), 3)[0]))
            lower = solve(row.f.matrix(n - 1), b.rank(n - 1), b.turned(n, y))
            self.assertEqual(found.value(x), class_of(a, n - 1, lower))

    def check_long(self, row):
        degrees = span_of_degrees(row)
        high, low = degrees[-1], degrees[0]
        found = row.long_row(high, low)
        self.assertIs(type(found), tuple)
        expected = [h for n in reversed(degrees) for h in (row.f.induced(n), row.g.induced(n), row.connecting(n))]
        self.assertEqual(list(found), expected)
        for f, g in zip(found, found[1:]):
            self.assertEqual(f.target, g.source)
            self.assertTrue(is_exact(f, g))

    def test_connecting_maps(self):
        for _, row in some_rows(121, 60):
            for n in span_of_degrees(row):
                self.check_connecting(row, n)

    def test_long_rows_are_exact(self):
        many = 0
        for _, row in some_rows(122, 100):
            self.check_long(row)
            many += 1
        self.assertGreater(many, 50)

    def test_known_pieces(self):
        chance = seeded(123)
        for low, sizes in ((-20, (0, 2, 4)), (12, (0, 1, 2, 3, 30))):
            one = Pieced(chance, low, 7, random_pieces(chance, low, 7, 60, sizes, 6), 12)
            two = Pieced(chance, low, 7, random_pieces(chance, low, 7, 60, sizes, 6), 12)
            f = ChainMap(one.complex, two.complex, chain_matrices(chance, one, two))
            row = disguised_row(chance, f)
            self.check_long(row)
            for n in span_of_degrees(row):
                self.assertTrue(row.connecting(n) == f.induced(n - 1))

    def test_some_degrees(self):
        row = cone_row(identity_chain(TWO).scaled(2))
        for high, low in ((1, 1), (3, -2), (0, -1), (-7, -9), (40, 38)):
            found = row.long_row(high, low)
            self.assertEqual(len(found), 3 * (high - low + 1))
            self.assertEqual(found[0], row.f.induced(high))
            self.assertEqual(found[-1], row.connecting(low))
        for high, low in ((0, 1), (-3, 3), (-1, 10 ** 30)):
            self.assertEqual(row.long_row(high, low), ())

    def test_far_degrees(self):
        row = cone_row(identity_chain(TWO))
        for n in (-10 ** 30, 10 ** 30, 30, -30):
            self.assertEqual((row.connecting(n).source.n, row.connecting(n).target.n), (0, 0))
            self.assertEqual(len(row.long_row(n, n)), 3)

    def test_by_hand(self):
        # 0 -> Z -> Z (by 2 in the degree 0) with the rounds of 2 and 4 and 2.
        a, b, c = TWO, Complex(0, (2, 2), (((2, 0), (1, 2)),)), TWO
        row = ShortRow(ChainMap(a, b, (((1, 0),), ((1, 0),))), ChainMap(b, c, (((0,), (1,)), ((0,), (1,)))))
        self.assertEqual([homology(x, 0).invariants() for x in (a, b, c)], [((2,), 0), ((4,), 0), ((2,), 0)])
        self.assertTrue(row.connecting(1).is_zero())
        # The integers, times 2 the integers, and the boundary between them.
        row = ShortRow(ChainMap(LINE, TWO, (((1,),),)), ChainMap(TWO, Complex(1, (1,), ()), (((),), ((1,),))))
        self.assertEqual(row.connecting(1).matrix, ((2,),))
        great = Complex(0, (1, 1), (((-GREAT,),),))
        row = ShortRow(ChainMap(LINE, great, (((1,),),)), ChainMap(great, Complex(1, (1,), ()), (((),), ((1,),))))
        self.assertEqual(row.connecting(1).value((3,)), (-3 * GREAT,))
        self.check_long(row)

    def test_complexes_without_ranks(self):
        for f, g in ((zero_chain(NOTHING, TWO), identity_chain(TWO)), (identity_chain(TWO), zero_chain(TWO, NOTHING)),
                     (zero_chain(NOTHING, LINE), -identity_chain(LINE)),
                     (zero_chain(NOTHING, NOTHING), zero_chain(NOTHING, Complex(-2, (), ())))):
            row = ShortRow(f, g)
            self.check_long(row)
            self.assertTrue(all(row.connecting(n).is_zero() for n in range(-3, 9)))


class Cones(Case):
    def test_connecting_maps_are_the_induced_ones(self):
        many = 0
        for f in some_chain_maps(seeded(124), 100):
            try:
                row = cone_row(f)
            except Refused:
                continue
            many += 1
            self.assertEqual((row.f, row.g), (into_cone(f), out_of_cone(f)))
            for n in span_of_degrees(row):
                self.assertEqual(homology(moved_by(f.source, 1), n), homology(f.source, n - 1))
                self.assertEqual(row.connecting(n), f.induced(n - 1))
        self.assertGreater(many, 50)

    def test_refused_as_out_of_cone(self):
        top = Complex(20, (1,), ())
        for f in (identity_chain(top), zero_chain(top, NOTHING), zero_chain(LINE, top),
                  zero_chain(Complex(0, (6,), ()), Complex(1, (7,), ()))):
            self.refused("large", out_of_cone, f)
            self.refused("large", cone_row, f)
        self.assertIsNotNone(cone_row(zero_chain(Complex(19, (1,), ()), top)))
        self.assertIsNotNone(cone_row(zero_chain(Complex(0, (12,), ()), Complex(0, (12,), ()))))


def two_rows(chance, groups, maps_between):
    """Two exact rows f, g and i, j, whose middle groups are among those told."""
    b, e = chance.choice(groups), chance.choice(groups)
    f = chance.choice(maps_between(chance.choice(groups), b))
    _, g = quotient_of(f.image())
    j = chance.choice(maps_between(e, chance.choice(groups)))
    _, i = group_of(j.kernel())
    return f, g, i, j


def some_sevens(chance, count):
    """Seven maps of finite groups that fit, found by trying maps of the middle groups."""
    groups = FINITE[:6]
    table = {}

    def maps_between(one, two):
        key = str(one) + " " + str(two)
        if key not in table:
            table[key] = all_maps(one, two)
        return table[key]

    while count:
        f, g, i, j = two_rows(chance, groups, maps_between)
        fitting = [b for b in maps_between(g.source, i.target) if f.then(b).then(j).is_zero()]
        b = chance.choice(fitting)
        a = [a for a in all_maps(f.source, i.source) if f.then(b) == a.then(i)]
        c = [c for c in all_maps(g.target, j.target) if g.then(c) == b.then(j)]
        if a and c:
            count -= 1
            yield f, g, i, j, a[0], b, c[0]


def identity_sevens():
    """Multiplications by integers on exact rows with endless groups."""
    for k, m in ((2, 4), (3, 2), (0, 5), (6, 6), (-1, 3), (2, 1)):
        line, round_ = Group(1), cyclic_group(m)
        f, g = Map(line, line, ((m,),)), Map(line, round_, ((1,),))
        yield f, g, f, g, *[identity_map(x).scaled(k) for x in (line, line, round_)]


class SixGroups(Case):
    def check_row(self, f, g, i, j, a, b, c):
        found = six_groups(f, g, i, j, a, b, c)
        self.assertIs(type(found), tuple)
        self.assertEqual(len(found), 5)
        kernels = [group_of(h.kernel()) for h in (a, b, c)]
        quotients = [quotient_of(h.image()) for h in (a, b, c)]
        groups = [group for group, _ in kernels + quotients]
        self.assertEqual([h.source for h in found] + [found[-1].target], groups)
        for one, two in zip(found, found[1:]):
            self.assertTrue(is_exact(one, two))
        self.assertTrue(found[0].is_one_to_one() or not f.is_one_to_one())
        self.assertTrue(found[4].is_onto() or not j.is_onto())
        self.assertEqual(found[0].then(kernels[1][1]), kernels[0][1].then(f))
        self.assertEqual(found[1].then(kernels[2][1]), kernels[1][1].then(g))
        self.assertEqual(quotients[0][1].then(found[3]), i.then(quotients[1][1]))
        self.assertEqual(quotients[1][1].then(found[4]), j.then(quotients[2][1]))
        return found[2], kernels[2][1], quotients[0][1]

    def check_connecting(self, f, g, i, j, a, b, c):
        """The connecting map element by element, for all choices."""
        connecting, into, onto = self.check_row(f, g, i, j, a, b, c)
        over, under = images_of(g), images_of(i)
        for x in connecting.source.all_elements():
            z = into.value(x)
            self.assertIn(z, members(c.kernel()))
            for y in [y for y in over if over[y] == z]:
                for lower in [lower for lower in under if under[lower] == b.value(y)]:
                    self.assertEqual(connecting.value(x), onto.value(lower))

    def test_finite_groups(self):
        for maps in some_sevens(seeded(125), 120):
            self.check_connecting(*maps)

    def test_endless_groups(self):
        for maps in identity_sevens():
            self.check_row(*maps)

    def test_rows_of_random_maps(self):
        chance = seeded(126)
        for f in some_maps(chance, 60):
            # The same row twice, and zeros or multiplications on it.
            _, g = quotient_of(f.image())
            _, i = group_of(g.kernel())
            a = Map(f.source, i.source, [(0,) * i.source.n for _ in range(f.source.n)])
            self.check_row(f, g, i, g, a, zero_map(f.target, f.target), zero_map(g.target, g.target))
            if f.is_one_to_one():
                for k in (1, 2, 3):
                    self.check_row(f, g, f, g, *[identity_map(x).scaled(k) for x in (f.source, f.target, g.target)])

    def test_by_hand(self):
        line = Group(1)
        # The multiplication by 2 on the integers, modulo 4: 0, 0, 2 -> 2, 2, 2.
        f, g = Map(line, line, ((4,),)), Map(line, cyclic_group(4), ((1,),))
        maps = f, g, f, g, *[identity_map(x).scaled(2) for x in (line, line, cyclic_group(4))]
        self.check_row(*maps)
        found = six_groups(*maps)
        self.assertEqual([h.source.order() for h in found] + [found[4].target.order()], [1, 1, 2, 2, 2, 2])
        self.assertEqual(found[2].value((1,)), (1,))

    def test_malformed(self):
        maps = list(next(identity_sevens()))
        for at in range(7):
            for value in ODD + (identity_map(free_group(3)), zero_map(Group(1), Group(2)), zero_map(Group(2), Group(1))):
                others = maps[:at] + [value] + maps[at + 1:]
                if not isinstance(value, Map) or value.source != maps[at].source or value.target != maps[at].target:
                    self.malformed(six_groups, *others)
        # Neither exact nor fitting: Malformed comes first.
        line = Group(1)
        zero = zero_map(line, line)
        self.malformed(six_groups, zero, zero, zero, zero, zero, zero, zero_map(line, Group(0)))

    def test_unlike_groups_at_each_place(self):
        line, other = Group(1), cyclic_group(2)
        same = identity_map(line)
        for at in range(7):
            for value in (zero_map(other, line), zero_map(line, other), identity_map(other)):
                others = [same] * at + [value] + [same] * (6 - at)
                if at == 0 and value.target == line or at == 3 and value.source == line:
                    continue
                self.malformed(six_groups, *others)
        self.malformed(six_groups, zero_map(other, line), *[same] * 6)
        self.malformed(six_groups, *[same] * 3, zero_map(line, other), *[same] * 3)

    def test_rows_and_commute(self):
        line, nothing, four = Group(1), Group(0), cyclic_group(4)
        f, g = Map(line, line, ((4,),)), Map(line, four, ((1,),))
        one, two, three = identity_map(line), identity_map(line), identity_map(four)
        self.assertEqual(len(six_groups(f, g, f, g, one, two, three)), 5)
        self.refused("rows", six_groups, f, g.scaled(2), f, g, one, two, three)
        self.refused("rows", six_groups, f, g, f.scaled(0), g, one, two, three)
        self.refused("rows", six_groups, f.scaled(2), g, f, g, one, two, three)
        self.refused("rows", six_groups, f.scaled(0), g, f, g, one, two, three)
        self.refused("rows", six_groups, f, g, f, g.scaled(0), one, two, three)
        self.refused("rows", six_groups, f, g, f, g.scaled(2), one, two, three)
        self.refused("rows", six_groups, f, g, f.scaled(2), g, one, two, three)
        for maps in ((one.scaled(2), two, three), (one, two.scaled(2), three), (one, two, three.scaled(2)),
                     (one.scaled(5), two.scaled(5), three.scaled(2)), (one.scaled(3), two.scaled(2), three.scaled(2))):
            self.refused("commute", six_groups, f, g, f, g, *maps)
            # The rows are looked at before the squares.
            self.refused("rows", six_groups, f, g.scaled(2), f, g, *maps)
        # Both rows are exact in the middle, but g is not onto, or i not one to one.
        wide = Group(2, ((4, 0),))
        self.refused("rows", six_groups, f, Map(line, wide, ((1, 0),)), f, g, one, two, Map(wide, four, ((1,), (0,))))
        plane = Group(2)
        self.refused("rows", six_groups, f, g, Map(plane, line, ((4,), (0,))), g, Map(line, plane, ((1, 0),)), two, three)
        # Multiples of 4 do not matter in the round of 4.
        self.assertEqual(len(six_groups(f, g, f, g, one.scaled(5), two.scaled(5), three)), 5)
        # f need not be one to one, nor j onto.
        start, end = zero_map(line, nothing), zero_map(nothing, four)
        self.assertEqual(len(six_groups(start, zero_map(nothing, nothing), zero_map(nothing, nothing), end,
                                        zero_map(line, nothing), zero_map(nothing, nothing), end)), 5)

