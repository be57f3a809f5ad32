"""The checker of papers (chapter 11): each paper that holds is accepted, and no other value."""

from tests.helper import (
    FINITE, GREAT, ODD, Case, Pieced, added, bounding_matrices, chain_matrices, changes, chained_pieces, deep,
    plainly_matrix, plainly_row, put, random_pieces, random_rows, seeded, some_chain_maps, some_complexes, some_pieced,
    turnable)
from tests.test_extension import is_split_bar, some_extensions
from tests.test_homotopy import shows_bar, shows_homotopic
from tests.test_maps import ENDLESS, some_maps
from cyclebounds.build import into_sum, out_of_sum
from cyclebounds.chain import ChainMap, identity_chain, zero_chain
from cyclebounds.checker import (
    takes_alike, takes_equivalent, takes_exact, takes_filling, takes_homotopic, takes_split)
from cyclebounds.complexes import Complex, moved_by
from cyclebounds.errors import Fault
from cyclebounds.ext import extension_of
from cyclebounds.extension import Extension
from cyclebounds.group import Group, cyclic_group, free_group
from cyclebounds.homology import cycle_of, homology
from cyclebounds.maps import Map, group_of, identity_map, quotient_of, zero_map
from cyclebounds.papers import (
    alike_paper, equivalence_paper, exact_paper, filling_paper, homotopy_paper, split_paper)
from cyclebounds.rows import add, dot, scaled, unit_matrix, unit_row

TWO = Complex(0, (1, 1), (((2,),),))
ONE = Complex(0, (1, 1), (((1,),),))
NOTHING = Complex(7, (), ())


def is_of_form(paper, kind, size):
    return type(paper) is tuple and len(paper) == size and type(paper[0]) is str and paper[0] == kind


def is_count(value, low):
    return type(value) is int and value >= low


def total(x, rows, width):
    """The sum of the rows times the items of x."""
    found = (0,) * width
    for item, row in zip(x, rows):
        found = add(found, scaled(row, item))
    return found


def less(v, w):
    return add(v, scaled(w, -1))


def bars(t, m, rows, b):
    return is_count(m, 2) and all(dot(t, row) % m == 0 for row in rows) and dot(t, b) % m != 0


def judge_filling(c, n, z, paper):
    """The words of point 11.2."""
    if is_of_form(paper, "filling", 2):
        return plainly_row(paper[1], c.rank(n + 1)) and total(paper[1], c.boundary(n + 1), c.rank(n)) == z
    if not is_of_form(paper, "bar", 3):
        return False
    return plainly_row(paper[1], c.rank(n)) and bars(paper[1], paper[2], c.boundary(n + 1), z)


def judge_homotopic(f, g, paper):
    """The words of point 11.3."""
    if is_of_form(paper, "homotopy", 2):
        return shows_homotopic(f, g, paper[1])
    if not is_of_form(paper, "bar", 5) or type(paper[1]) is not int:
        return False
    return shows_bar(f, g, paper[1:])


def chain_map(a, b, matrices):
    """The chain map with some matrices, None if they are none of one."""
    if type(matrices) is not tuple or len(matrices) != len(a.ranks):
        return None
    if not all(plainly_matrix(rows, a.rank(n), b.rank(n)) for n, rows in zip(a.degrees(), matrices)):
        return None
    try:
        return ChainMap(a, b, matrices)
    except Fault:
        return None


def judge_equivalent(a, b, paper):
    """The words of point 11.4."""
    if is_of_form(paper, "equivalence", 5):
        f, g = chain_map(a, b, paper[1]), chain_map(b, a, paper[2])
        if f is None or g is None:
            return False
        return (shows_homotopic(f.then(g), identity_chain(a), paper[3])
                and shows_homotopic(g.then(f), identity_chain(b), paper[4]))
    if not is_of_form(paper, "apart", 3):
        return False
    if not judge_standard(a, paper[1]) or not judge_standard(b, paper[2]):
        return False
    return [piece for piece in paper[1][0] if piece[1] != 1] != [piece for piece in paper[2][0] if piece[1] != 1]


def judge_standard(c, value):
    if type(value) is not tuple or len(value) != 3:
        return False
    found, changes_, backs = value
    if type(found) is not tuple or not all(plainly_row(piece, 2) and piece[1] >= 0 for piece in found):
        return False
    if found != chained_pieces(found) or len({type(rows) for rows in value}) != 1:
        return False
    for rows in (changes_, backs):
        if len(rows) != len(c.ranks) or not all(plainly_matrix(m, k, k) for m, k in zip(rows, c.ranks)):
            return False
    # The basis of each degree: the ends of pieces, each with the pair of the factor and the end below it.
    bases = {n: [] for n in c.degrees()}
    for n in {n for n, s in found} | {n + 1 for n, s in found if s}:
        if n not in bases:
            return False
    for n in bases:
        upper = [("up", at) for at, (m, s) in enumerate(found) if m == n - 1 and s > 0]
        lower = [("low", at) for at, (m, s) in enumerate(found) if m == n and s > 0]
        bases[n] = upper + lower + [("low", at) for at, (m, s) in enumerate(found) if m == n and s == 0]
        if len(bases[n]) != c.rank(n):
            return False
    for index, n in enumerate(c.degrees()):
        change, width = changes_[index], c.rank(n - 1)
        if tuple(total(row, backs[index], c.rank(n)) for row in change) != unit_matrix(c.rank(n)):
            return False
        for row, (end, at) in zip(change, bases[n]):
            expected = (0,) * width
            if end == "up":
                expected = scaled(changes_[index - 1][bases[n - 1].index(("low", at))], found[at][1])
            if total(row, c.boundary(n), width) != expected:
                return False
    return True


def judge_exact(f, g, paper):
    """The words of point 11.5."""
    source, middle, target = f.source, g.source, g.target
    if is_of_form(paper, "beside", 2):
        if not plainly_row(paper[1], source.n):
            return False
        return not target.is_zero(total(total(paper[1], f.matrix, middle.n), g.matrix, target.n))
    if is_of_form(paper, "left", 4):
        _, y, t, m = paper
        if not plainly_row(y, middle.n) or not plainly_row(t, middle.n):
            return False
        return target.is_zero(total(y, g.matrix, target.n)) and bars(t, m, f.matrix + middle.relations, y)
    return is_of_form(paper, "exact", 4) and judge_shown_exact(f, g, *paper[1:])


def judge_shown_exact(f, g, u, back, lifts):
    source, middle, target = f.source, g.source, g.target
    rows = g.matrix + target.relations
    size = len(rows)
    if not plainly_matrix(u, size, size) or not plainly_matrix(back, size, size) or type(lifts) is not tuple:
        return False
    if not all(target.is_zero(total(row, g.matrix, target.n)) for row in f.matrix):
        return False
    if tuple(total(row, back, size) for row in u) != unit_matrix(size):
        return False
    product = [total(row, rows, target.n) for row in u]
    places = [next((at for at, item in enumerate(row) if item), None) for row in product]
    firsts = [place for place in places if place is not None]
    if places != firsts + [None] * (size - len(firsts)) or any(a >= b for a, b in zip(firsts, firsts[1:])):
        return False
    asked = [row[:middle.n] for row in u[len(firsts):]]
    if len(lifts) != len(asked):
        return False
    for lift, y in zip(lifts, asked):
        if type(lift) is not tuple or len(lift) != 2 or not plainly_row(lift[0], source.n):
            return False
        if not plainly_row(lift[1], len(middle.relations)):
            return False
        if add(total(lift[0], f.matrix, middle.n), total(lift[1], middle.relations, middle.n)) != y:
            return False
    return True


def judge_split(x, paper):
    """The words of point 11.6."""
    middle, last = x.middle(), x.last()
    if is_of_form(paper, "section", 2):
        matrix = paper[1]
        if not plainly_matrix(matrix, last.n, middle.n):
            return False
        if not all(middle.is_zero(total(row, matrix, middle.n)) for row in last.relations):
            return False
        return all(last.same(x.p.value(row), unit_row(last.n, at)) for at, row in enumerate(matrix))
    if not is_of_form(paper, "bar", 5) or not plainly_row(paper[2], middle.n):
        return False
    return is_split_bar(x, paper[1:])


def judge_alike(one, two, paper):
    """The words of point 11.7."""
    first, start, middle, last = one.first(), one.middle(), two.middle(), one.last()
    if is_of_form(paper, "alike", 2):
        matrix = paper[1]
        if not plainly_matrix(matrix, start.n, middle.n):
            return False
        if not all(middle.is_zero(total(row, matrix, middle.n)) for row in start.relations):
            return False
        if not all(middle.same(total(row, matrix, middle.n), other)
                   for row, other in zip(one.i.matrix, two.i.matrix)):
            return False
        return all(last.same(two.p.value(row), other) for row, other in zip(matrix, one.p.matrix))
    if not is_of_form(paper, "apart", 8):
        return False
    _, k, e, e2, b, b2, t, m = paper
    if not is_count(k, 1) or not plainly_row(e, start.n) or not plainly_row(e2, middle.n):
        return False
    if not all(plainly_row(row, first.n) for row in (b, b2, t)) or not last.same(one.p.value(e), two.p.value(e2)):
        return False
    if not start.same(scaled(e, k), one.i.value(b)) or not middle.same(scaled(e2, k), two.i.value(b2)):
        return False
    return bars(t, m, first.relations, less(b, b2)) and all(k * item % m == 0 for item in t)


KINDS = (
    (takes_filling, judge_filling, filling_paper), (takes_homotopic, judge_homotopic, homotopy_paper),
    (takes_equivalent, judge_equivalent, equivalence_paper), (takes_exact, judge_exact, exact_paper),
    (takes_split, judge_split, split_paper), (takes_alike, judge_alike, alike_paper))


def filling_cases(number, count):
    chance = seeded(number)
    for c, _ in some_complexes(chance, count):
        for n in range(c.low - 1, c.low + len(c.ranks) + 1):
            x = random_rows(chance, 1, homology(c, n).n, 3)[0]
            yield c, n, cycle_of(c, n, x)
            yield c, n, c.turned(n + 1, random_rows(chance, 1, c.rank(n + 1), 3)[0])


def homotopy_cases(number, count):
    chance = seeded(number)
    for f in some_chain_maps(chance, count):
        _, around = bounding_matrices(chance, f.source, f.target, 2)
        yield f, f - ChainMap(f.source, f.target, around)
        yield f, f.scaled(chance.randint(-2, 2))


def equivalence_cases(number, count):
    chance = seeded(number)
    for at in range(count):
        lasting = random_pieces(chance, 0, 3, 3, (0, 2, 3, 4), 3)
        other = lasting if at % 2 else random_pieces(chance, 0, 3, 3, (0, 2, 3, 4), 3)
        one = Pieced(chance, 0, 3, lasting + random_pieces(chance, 0, 3, 1, (1,), 2))
        two = Pieced(chance, -1, 4, other + random_pieces(chance, -1, 4, 2, (1,), 2))
        yield one.complex, two.complex
    yield from ((NOTHING, NOTHING), (NOTHING, ONE), (NOTHING, TWO), (TWO, moved_by(TWO, 1)), (TWO, TWO))


def exact_cases(number, count):
    chance = seeded(number)
    for f in some_maps(chance, count):
        onto = quotient_of(f.image())[1]
        into = group_of(f.kernel())[1]
        yield f, onto
        yield into, f
        yield f.scaled(2), onto
        yield f, identity_map(f.target)
        yield zero_map(Group(0), f.source), f
        yield f, zero_map(f.target, Group(0))


def split_cases(number, count):
    for x in some_extensions(seeded(number), count):
        yield (x,)


def alike_cases(number, count):
    chance = seeded(number)
    for x in some_extensions(chance, count):
        yield x, x
        if x.middle().n < 6:
            a, b = x.last(), x.first()
            for _ in range(2):
                c = random_rows(chance, 1, len(a.relations) * b.n, 3)[0]
                yield x, extension_of(a, b, c)
                yield extension_of(a, b, c), extension_of(a, b, scaled(c, -1))


CASES = (filling_cases, homotopy_cases, equivalence_cases, exact_cases, split_cases, alike_cases)


class Papers(Case):
    def test_papers_that_are_made_are_accepted(self):
        for (takes, judge, make), cases in zip(KINDS, CASES):
            seen = {}
            for args in cases(200, 40):
                paper = make(*args)
                self.assertIs(takes(*args, paper), True)
                self.assertTrue(judge(*args, paper))
                seen[paper[0]] = seen.get(paper[0], 0) + 1
            self.assertGreaterEqual(len(seen), 2)
            self.assertGreater(min(seen.values()), 3, seen)

    def test_papers_that_are_changed_at_one_place(self):
        chance = seeded(201)
        for (takes, judge, make), cases in zip(KINDS, CASES):
            seen = []
            for args in cases(202, 50):
                paper = make(*args)
                for other in changes(chance, paper, 40):
                    answer = takes(*args, other)
                    self.assertIsInstance(answer, bool)
                    self.assertEqual(answer, judge(*args, other), (takes, other))
                    seen.append(answer)
            self.assertGreater(seen.count(False), 500)
            # Some changes keep what the paper shows: other factors, other choices.
            self.assertGreater(seen.count(True), 0)

    def test_values_of_every_form(self):
        for (takes, judge, make), cases in zip(KINDS, CASES):
            for args in list(cases(203, 6))[:12]:
                paper = make(*args)
                words = ("filling", "bar", "homotopy", "equivalence", "apart", "exact", "beside", "left", "section", "alike")
                values = list(ODD) + [(word,) for word in words] + [(word, value) for word in words for value in ODD]
                values += [list(paper), paper[:-1], paper + (0,), paper[1:], (paper,), (paper[0],) * len(paper)]
                values += [(paper[0],) + tuple(list(part) if type(part) is tuple else part for part in paper[1:])]
                values += [(word, *paper[1:]) for word in words] + [deep(60), deep(59), deep(40)]
                for value in values:
                    answer = takes(*args, value)
                    self.assertIsInstance(answer, bool)
                    self.assertEqual(answer, judge(*args, value), (takes, repr(value)[:100]))

    def test_each_part_may_be_any_value(self):
        for (takes, judge, make), cases in zip(KINDS, CASES):
            for args in list(cases(204, 4))[:8]:
                paper = make(*args)
                for at in range(len(paper)):
                    for value in ODD + (deep(58),):
                        other = put(paper, (at,), value)
                        self.assertEqual(takes(*args, other), judge(*args, other), (takes, at, repr(value)[:100]))

    def test_true_is_no_1(self):
        one = Complex(0, (1, 1), (((1,),),))
        self.assertIs(takes_filling(one, 0, (1,), ("filling", (1,))), True)
        self.assertIs(takes_filling(one, 0, (1,), ("filling", (True,))), False)
        self.assertIs(takes_filling(TWO, 0, (1,), ("bar", (1,), 2)), True)
        self.assertIs(takes_filling(TWO, 0, (1,), ("bar", (True,), 2)), False)
        f, g = identity_chain(ONE), zero_chain(ONE, ONE)
        self.assertIs(takes_homotopic(f, g, ("homotopy", (((1,),), ((),)))), True)
        self.assertIs(takes_homotopic(f, g, ("homotopy", (((True,),), ((),)))), False)
        h = identity_chain(TWO)
        self.assertIs(takes_homotopic(h, zero_chain(TWO, TWO), ("bar", 1, 2, (1,), (1,))), True)
        self.assertIs(takes_homotopic(h, zero_chain(TWO, TWO), ("bar", True, 2, (1,), (1,))), False)
        self.assertIs(takes_homotopic(h, zero_chain(TWO, TWO), ("bar", 1, 2, (True,), (1,))), False)
        line = Group(1)
        x = Extension(identity_map(line), zero_map(line, cyclic_group(1)))
        self.assertIs(takes_split(x, ("section", ((0,),))), True)
        self.assertIs(takes_split(x, ("section", ((False,),))), False)
        paper = ("exact", ((1,),), ((1,),), ())
        self.assertIs(takes_exact(zero_map(Group(0), line), identity_map(line), paper), True)
        for path in ((1, 0, 0), (2, 0, 0)):
            self.assertIs(takes_exact(zero_map(Group(0), line), identity_map(line), put(paper, path, True)), False)

    def test_both_kinds_never_hold(self):
        """No small paper of the one kind is accepted where there is one of the other kind."""
        for c in (TWO, ONE, Complex(0, (1, 1), (((6,),),)), Complex(0, (1, 1), (((0,),),))):
            for z in range(-7, 8):
                shown = any(takes_filling(c, 0, (z,), ("filling", (y,))) for y in range(-10, 11))
                barred = any(takes_filling(c, 0, (z,), ("bar", (t,), m)) for t in range(-8, 9) for m in range(2, 16))
                self.assertNotEqual(shown, barred)
        line = Group(1)
        for k in range(0, 5):
            for m in (2, 4, 5):
                f, g = Map(line, line, ((k,),)), Map(line, cyclic_group(m), ((1,),))
                exact = k in (m, -m)
                self.assertEqual(exact_paper(f, g)[0] == "exact", exact)
                beside = any(takes_exact(f, g, ("beside", (x,))) for x in range(-6, 7))
                left = any(takes_exact(f, g, ("left", (y,), (t,), n)) for y in range(-10, 11) for t in range(-5, 6)
                           for n in range(2, 12))
                self.assertNotEqual(exact, beside or left)


class Standards(Case):
    """The parts of a paper that shows complexes apart."""

    def check(self, a, one, b, two, expected):
        self.assertIs(takes_equivalent(a, b, ("apart", one, two)), expected)
        self.assertIs(judge_equivalent(a, b, ("apart", one, two)), expected)
        # Both places are looked at alike.
        self.assertIs(takes_equivalent(b, a, ("apart", two, one)), expected)

    def test_order_of_the_pieces(self):
        c = Complex(0, (3, 2), (((2, 0, 0), (0, 4, 0)),))
        units = (unit_matrix(3), unit_matrix(2))
        other = (((5, 0),), (((1,),),), (((1,),),))
        d = Complex(5, (1,), ())
        # With the pieces in their order the units show the form: the upper ends are the basis of the degree 1.
        self.check(c, (((0, 2), (0, 4), (0, 0)), units, units), d, other, True)
        for found in (((0, 4), (0, 2), (0, 0)), ((0, 2), (0, 0), (0, 4)), ((0, 2), (0, 4)), ((0, 2), (0, 4), (0, 0), (0, 0)),
                      ((0, 2), (0, 4), (1, 0)), ((0, 2), (0, 4), (0, 0), (1, 0)), ((0, 2), (0, 4), (-1, 0)),
                      ((0, 2), (0, 4), (0, 1)), ((0, 2), (0, 4), (0, -1)), ((0, 2), (0, -4), (0, 0)), ((0, 2), (0, 8), (0, 0)),
                      ((0, 1), (0, 8), (0, 0)), ((0, 2), (0, 4), (0, False)), ((0, 2), (0, 4), [0, 0]), ()):
            self.check(c, (found, units, units), d, other, False)

    def test_divisors_that_do_not_divide(self):
        c = Complex(0, (2, 2), (((2, 0), (0, 3)),))
        units = (unit_matrix(2), unit_matrix(2))
        d = Complex(5, (1,), ())
        other = (((5, 0),), (((1,),),), (((1,),),))
        self.check(c, (((0, 2), (0, 3)), units, units), d, other, False)

    def test_pieces_without_homology_do_not_count(self):
        units = (((1,),), ((1,),))
        self.check(ONE, (((0, 1),), units, units), NOTHING, ((), (), ()), False)
        self.check(TWO, (((0, 2),), units, units), NOTHING, ((), (), ()), True)
        self.check(TWO, (((0, 2),), units, units), TWO, (((0, 2),), units, units), False)

    def test_backs_and_boundaries(self):
        c = Complex(0, (2, 1), (((1, 2),),))
        d = Complex(0, (2, 1), (((3, 6),),))
        changes_ = (((1, 2), (0, 1)), ((1,),))
        backs = (((1, -2), (0, 1)), ((1,),))
        one, two = (((0, 1), (0, 0)), changes_, backs), (((0, 3), (0, 0)), changes_, backs)
        self.check(c, one, d, two, True)
        self.check(c, one, d, (two[0], changes_, changes_), False)
        self.check(c, one, d, (two[0], backs, changes_), False)
        self.check(c, (one[0], (((1, 2), (0, 1)), ((-1,),)), (backs[0], ((-1,),))), d, two, False)
        self.check(c, (one[0], (((1, 2), (0, 2)), ((1,),)), backs), d, two, False)


class Rows(Case):
    """The parts of a paper that shows two maps exact, and signs of bars."""

    def check(self, f, g, paper, expected):
        self.assertIs(takes_exact(f, g, paper), expected)
        self.assertIs(judge_exact(f, g, paper), expected)

    def test_first_f_and_then_g(self):
        line = Group(1)
        same = identity_map(line)
        # What g takes to 0 is in the image, but not all of the image goes to 0.
        self.check(same, same, ("exact", ((1,),), ((1,),), ()), False)
        self.check(zero_map(Group(0), line), same, ("exact", ((1,),), ((1,),), ()), True)
        self.check(same, zero_map(line, line), ("exact", ((1,),), ((1,),), (((1,), ()),)), True)
        self.check(same, identity_map(line).scaled(2), ("exact", ((1,),), ((1,),), ()), False)

    def test_steps(self):
        line, plane, nothing = Group(1), Group(2), zero_map(Group(0), Group(2))
        same, units = identity_map(plane), unit_matrix(2)
        self.check(nothing, same, ("exact", units, units, ()), True)
        self.check(nothing, same, ("exact", units[::-1], units[::-1], ()), False)
        self.check(nothing, same, ("exact", ((1, 0), (1, 1)), ((1, 0), (-1, 1)), ()), False)
        self.check(nothing, same, ("exact", ((1, 1), (0, 1)), ((1, -1), (0, 1)), ()), True)
        # Both rows of the product are alike here: none is zero, and yet something goes to 0.
        onto = Map(plane, line, ((1,), (0,)))
        self.check(nothing, onto, ("exact", ((1, 0), (1, 1)), ((1, 0), (-1, 1)), ()), False)
        into = Map(line, plane, ((0, 1),))
        self.check(into, onto, ("exact", units, units, (((1,), ()),)), True)
        self.check(into, onto, ("exact", units[::-1], units[::-1], (((1,), ()),)), False)
        # The places may leave some out.
        wide = Map(plane, Group(4), ((0, 2, 0, 5), (0, 0, 0, 7)))
        self.check(nothing, wide, ("exact", units, units, ()), True)
        self.check(nothing, wide, ("exact", units[::-1], units[::-1], ()), False)

    def test_numbers_of_pieces(self):
        line, other = Complex(0, (1,), ()), Complex(1, (1,), ())
        unit = (((1,),),)
        for s in range(-3, 4):
            for paper, args in ((("apart", (((0, s),), unit, unit), (((1, 0),), unit, unit)), (line, other)),
                                (("apart", (((1, 0),), unit, unit), (((0, s),), unit, unit)), (other, line))):
                self.assertIs(takes_equivalent(*args, paper), s == 0)

    def test_both_maps_of_a_bar(self):
        f = identity_chain(TWO)
        bar = ("bar", 1, 2, (1,), (1,))
        for k in range(-4, 5):
            for m in range(-4, 5):
                self.assertIs(takes_homotopic(f.scaled(k), f.scaled(m), bar), (k - m) % 2 != 0)


class Slow(Case):
    """Papers made by hand, for what would be slow to make one for."""

    def test_filling(self):
        chance = seeded(205)
        most = 10 ** 400
        c = Complex(0, (12, 12), [random_rows(chance, 12, 12, most)])
        y = random_rows(chance, 1, 12, most)[0]
        self.assertIs(takes_filling(c, 0, c.turned(1, y), ("filling", y)), True)
        self.assertIs(takes_filling(c, 0, c.turned(1, y), ("filling", add(y, unit_row(12, 7)))), False)
        double = Complex(0, (12, 12), [[scaled(row, 2) for row in c.boundary(1)]])
        z = add(double.turned(1, y), unit_row(12, 5))
        self.assertIs(takes_filling(double, 0, z, ("bar", unit_row(12, 5), 2)), True)
        self.assertIs(takes_filling(double, 0, z, ("bar", unit_row(12, 4), 2)), False)

    def test_homotopies_and_equivalences(self):
        chance = seeded(206)
        found = random_pieces(chance, 0, 8, 200, (0, 1, 2, 4))
        one, two = Pieced(chance, 0, 8, found, 400), Pieced(chance, 0, 8, found, 400)
        a, b = one.complex, two.complex
        f = ChainMap(a, b, chain_matrices(chance, one, two, 10 ** 300))
        moves, around = bounding_matrices(chance, a, b, 10 ** 300)
        g = ChainMap(a, b, [added(rows, others) for rows, others in zip(f.matrices, around)])
        self.assertIs(takes_homotopic(g, f, ("homotopy", moves)), True)
        self.assertIs(takes_homotopic(f, g, ("homotopy", moves)), False)
        # The identity of a complex in other bases.
        bases = [turnable(chance, rank, 300) for rank in a.ranks]
        self.assertTrue(all(len(rows) == rank for (rows, _), rank in zip(bases, a.ranks)))
        ahead, back, c = self.in_other_bases(a, bases)
        zeros = tuple(tuple((0,) * a.rank(n + 1) for _ in range(a.rank(n))) for n in a.degrees())
        paper = ("equivalence", ahead, back, zeros, zeros)
        self.assertIs(takes_equivalent(a, c, paper), True)
        self.assertIs(takes_equivalent(a, c, ("equivalence", back, ahead, zeros, zeros)), False)
        n = next(at for at, rows in enumerate(zeros) if rows and rows[0])
        self.assertIs(takes_equivalent(a, c, put(paper, (3, n, 0, 0), 1)), judge_equivalent(a, c, put(paper, (3, n, 0, 0), 1)))

    def in_other_bases(self, a, bases):
        """Matrices there and back, and the complex with the rows of the second matrices as its bases."""
        ahead = tuple(tuple(tuple(row) for row in back) for _, back in bases)
        back = tuple(tuple(tuple(row) for row in rows) for rows, _ in bases)
        boundaries = []
        for index in range(1, len(a.ranks)):
            width = a.ranks[index - 1]
            rows = [total(row, a.boundaries[index - 1], width) for row in back[index]]
            boundaries.append([total(row, ahead[index - 1], width) for row in rows])
        return ahead, back, Complex(a.low, a.ranks, boundaries)

    def test_groups_of_40_generators(self):
        chance = seeded(207)
        group = Group(40, random_rows(chance, 39, 40, 10 ** 6))
        same, nothing = identity_map(group), Group(0)
        size = 40 + len(group.relations)
        # The unit rows of the relations follow from those of the generators: so they go to zero rows.
        units = unit_matrix(size)
        lower = [add(units[40 + at], scaled(row + (0,) * len(group.relations), -1)) for at, row in enumerate(group.relations)]
        upper = [add(units[40 + at], row + (0,) * len(group.relations)) for at, row in enumerate(group.relations)]
        u, back = units[:40] + tuple(lower), units[:40] + tuple(upper)
        zero = zero_map(nothing, group)
        lifts = tuple(((), scaled(unit_row(len(group.relations), at), -1)) for at in range(len(group.relations)))
        self.assertIs(takes_exact(zero, same, ("exact", u, back, lifts)), True)
        self.assertIs(takes_exact(zero, same, ("exact", u, u, lifts)), False)
        self.assertIs(takes_exact(zero, same, ("exact", u, back, lifts[:-1])), False)
        self.assertIs(takes_exact(same, same, ("beside", unit_row(40, 39))), True)
        self.assertIs(takes_exact(zero, same.scaled(0), ("left", unit_row(40, 0), unit_row(40, 0), 2)),
                      judge_exact(zero, same.scaled(0), ("left", unit_row(40, 0), unit_row(40, 0), 2)))

    def test_extensions_of_40_generators(self):
        chance = seeded(208)
        a, b = Group(20, random_rows(chance, 20, 20, 10 ** 9)), Group(20, random_rows(chance, 15, 20, 10 ** 9))
        x = Extension(into_sum((b, a), 0), out_of_sum((b, a), 1))
        matrix = into_sum((b, a), 1).matrix
        self.assertIs(takes_split(x, ("section", matrix)), True)
        self.assertIs(takes_split(x, ("section", matrix[::-1])), False)
        self.assertIs(takes_alike(x, x, ("alike", unit_matrix(40))), True)
        y = Extension(x.i, -x.p)
        turned = tuple(scaled(row, 1 if at < 20 else -1) for at, row in enumerate(unit_matrix(40)))
        self.assertIs(takes_alike(x, y, ("alike", turned)), True)
        self.assertIs(takes_alike(x, y, ("alike", unit_matrix(40))), False)
        four = [Group(20, [scaled(unit_row(20, i), k) for i in range(20)]) for k in (GREAT, GREAT ** 2)]
        z = Extension(Map(four[0], four[1], [scaled(row, GREAT) for row in unit_matrix(20)]),
                      Map(four[1], four[0], unit_matrix(20)))
        e = unit_row(20, 3)
        self.assertIs(takes_split(z, ("bar", GREAT, e, e, GREAT ** 2)), True)
        self.assertIs(takes_split(z, ("bar", GREAT, e, e, GREAT)), False)
        w = Extension(z.i, z.p.scaled(2))
        b, b2 = e, scaled(e, 2)
        half = (GREAT + 1) // 2
        paper = ("apart", GREAT, e, scaled(e, half), b, scaled(e, half), e, GREAT)
        self.assertIs(takes_alike(z, w, paper), judge_alike(z, w, paper))
        self.assertIs(takes_alike(z, w, paper), True)
        self.assertIs(takes_alike(z, w, put(paper, (4,), b2)), False)


class Deeper(Case):
    def test_far_degrees(self):
        f = identity_chain(TWO)
        for n in (-GREAT, 2, 5, GREAT):
            self.assertIs(takes_homotopic(f, f.scaled(3), ("bar", n, 2, (), ())), False)
            self.assertIs(takes_filling(TWO, n, (), ("filling", ())), True)
            self.assertIs(takes_filling(TWO, n, (), ("bar", (), 2)), False)

    def test_bars_of_1(self):
        self.assertIs(takes_filling(TWO, 0, (1,), ("bar", (1,), 2)), True)
        for m in (1, 0, -2, 4, True, "2", None, (2,)):
            self.assertIs(takes_filling(TWO, 0, (1,), ("bar", (1,), m)), False)
        line, four = Group(1), cyclic_group(4)
        x = Extension(Map(cyclic_group(2), four, ((2,),)), Map(four, cyclic_group(2), ((1,),)))
        self.assertIs(takes_split(x, ("bar", 2, (1,), (1,), 4)), True)
        self.assertIs(takes_split(x, ("bar", -2, (1,), (1,), 4)), False)
        self.assertIs(takes_split(x, ("bar", 0, (1,), (1,), 4)), False)
        self.assertIs(takes_split(x, ("bar", 2, (1,), (1,), 1)), False)
        self.assertIs(takes_split(x, ("bar", 6, (3,), (1,), 4)), True)
        self.assertIs(takes_exact(zero_map(line, line), zero_map(line, Group(0)), ("left", (1,), (1,), 1)), False)

    def test_finite_and_endless_groups(self):
        for a in FINITE[:7] + ENDLESS[:4]:
            same = identity_map(a)
            one = Extension(same, zero_map(a, free_group(0)))
            two = Extension(zero_map(free_group(0), a), same)
            for x in (one, two):
                self.assertIs(takes_split(x, split_paper(x)), True)
                self.assertIs(takes_alike(x, x, alike_paper(x, x)), True)
                self.assertIs(takes_exact(x.i, x.p, exact_paper(x.i, x.p)), True)

    def test_few_pieced(self):
        for one in some_pieced(seeded(209), 20):
            c = one.complex
            paper = equivalence_paper(c, NOTHING)
            self.assertIs(takes_equivalent(c, NOTHING, paper), True)
            self.assertEqual(paper[0] == "equivalence", all(s == 1 for _, s in one.pieces))
