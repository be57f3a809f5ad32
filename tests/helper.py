"""What the tests share: values of all kinds, small groups, and checks of errors."""

import itertools
import math
import random
import unittest

from cyclebounds.chain import ChainMap, identity_chain
from cyclebounds.complexes import Complex
from cyclebounds.console import Console
from cyclebounds.errors import Fault, Malformed, NoText, Refused
from cyclebounds.extension import Extension
from cyclebounds.filtered import Filtered
from cyclebounds.group import Group, cyclic_group, free_group
from cyclebounds.long import ShortRow, cone_row
from cyclebounds.maps import Map, identity_map, zero_map
from cyclebounds.replies import Reply
from cyclebounds.subgroup import Subgroup, whole

GREAT = 10 ** 60 + 7


def deep(levels):
    value = (1,)
    for _ in range(levels):
        value = (value,) if levels % 2 else [value]
    return value


# Values of every kind that the document names; none of them is a row of integers of a length above 3.
ODD = (
    None, True, False, 0, 1, -1, 41, GREAT, -GREAT, "", "a", "12", "2: 2 0", "\u00b2", "\ud800",
    (), [], (1,), [1], (True,), (False, 0), (1, None), ("1",), ("a", 1), (1, 2), [1, 2], (1, 2, 3), [[1, 2]],
    ((),), [()], ([],), [[]], ((1,),), ((1, 2),), ([1, 2],), ((1, 2), (3,)), ((1, 2), 3), ((1, True),), (((1, 2),),),
    deep(59), deep(58), cyclic_group(3), free_group(2), whole(cyclic_group(2)), identity_map(cyclic_group(2)),
    (cyclic_group(2), 1), [identity_map(free_group(1))], Refused("large"), NoText(0), Complex(0, (1, 1), (((2,),),)),
    [Complex(1, (), ())], Extension(identity_map(cyclic_group(2)), zero_map(cyclic_group(2), free_group(0))),
    identity_chain(Complex(0, (1,), ())), (identity_chain(Complex(2, (), ())),),
    cone_row(identity_chain(Complex(0, (1,), ()))), Filtered(Complex(0, (1,), ()), ((3,),)),
    Reply("done"), ("", Reply("done")), Reply("error", "text", (1,)), Console(), "let c = 0: 1", "> a\n= done \n# ()\n",
)


class Case(unittest.TestCase):
    """A test case with the checks of the errors of the program."""

    def malformed(self, call, *args):
        with self.assertRaises(Malformed, msg=repr(args)[:200]):
            call(*args)

    def refused(self, reason, call, *args):
        with self.assertRaises(Refused, msg=repr(args)[:200]) as caught:
            call(*args)
        self.assertEqual(caught.exception.reason, reason)

    def no_text(self, call, *args):
        with self.assertRaises(NoText, msg=repr(args)[:200]) as caught:
            call(*args)
        self.assertEqual(caught.exception.at, 0)

    def malformed_unless_row(self, call, n):
        """Each odd value that is no row of the length n raises Malformed, and rows raise nothing."""
        for value in ODD + ((0,) * (n + 1), [0] * n):
            if plainly_row(value, n):
                call(value)
            else:
                self.malformed(call, value)

    def same_truth(self, call, expected, values):
        """A function answers with True and False, and as another one does, for all values."""
        for value in values:
            answer = call(value)
            self.assertIsInstance(answer, bool)
            self.assertEqual(answer, expected(value), repr(value)[:200])


def plainly_row(value, n):
    return type(value) is tuple and len(value) == n and all(type(item) is int for item in value)


def plainly_rows(value, n):
    """What Group, Subgroup and Map take as rows: lists or tuples of lists or tuples of integers."""
    return type(value) in (list, tuple) and all(type(row) in (list, tuple) and plainly_row(tuple(row), n)
                                                for row in value)


def plainly_matrix(value, n, width):
    """A tuple of n tuples of `width` integers."""
    return type(value) is tuple and len(value) == n and all(plainly_row(row, width) for row in value)


def paths(value, path=()):
    """The places of all values that a nested tuple has, itself included."""
    found = [path]
    if type(value) is tuple:
        for at, item in enumerate(value):
            found += paths(item, path + (at,))
    return found


def at_path(value, path):
    for at in path:
        value = value[at]
    return value


def put(value, path, new):
    """The nested tuple with another value at one place."""
    if not path:
        return new
    return value[:path[0]] + (put(value[path[0]], path[1:], new),) + value[path[0] + 1:]


def other_values(value):
    """What may stand in the place of a value that it is not."""
    if type(value) is tuple:
        found = [list(value), value[:-1], value[1:], value + (0,), value + value[-1:], (value,), (), None, 0, deep(55)]
    elif type(value) is int:
        found = [value + 1, value - 1, -value, 0, 1, 2 * value + 1, value + GREAT, True, False, None, str(value), (value,)]
    else:
        found = ["bar", "section", "filling", "apart", "exact", value.upper(), value + " ", None, 1, (value,)]
    return [new for new in found if type(new) is not type(value) or new != value]


def changes(chance, value, most):
    """Some of the nested tuples that another one becomes if it is changed at one place."""
    found = [(path, new) for path in paths(value) for new in other_values(at_path(value, path))]
    return [put(value, path, new) for path, new in chance.sample(found, min(most, len(found)))]


def seeded(number):
    return random.Random(number)


def random_rows(chance, n, width, most):
    return tuple(tuple(chance.randint(-most, most) for _ in range(width)) for _ in range(n))


def boxes(n, most):
    """All rows of the length n with items from 0 to most - 1."""
    return itertools.product(range(most), repeat=n)


OWN = (Group, Subgroup, Map, Extension, Complex, ChainMap, ShortRow, Filtered, Reply, Console)


def snapshot(value):
    """A value as nested tuples that tell its kinds and fields, to see whether it has changed."""
    if isinstance(value, (list, tuple)):
        return (type(value).__name__,) + tuple(snapshot(item) for item in value)
    if isinstance(value, dict):
        return ("dict",) + tuple((snapshot(key), snapshot(item)) for key, item in value.items())
    if isinstance(value, OWN):
        return (type(value).__name__,) + tuple((key, snapshot(item)) for key, item in sorted(vars(value).items()))
    return (type(value).__name__, value)


FINITE = (
    Group(0),
    cyclic_group(1),
    cyclic_group(2),
    cyclic_group(3),
    cyclic_group(4),
    Group(2, ((2, 0), (0, 2))),
    Group(2, ((1, 1), (0, 4))),
    Group(2, ((2, 1), (0, 3))),
    Group(2, ((2, 0), (0, 4))),
    Group(3, ((1, 0, 1), (0, 2, 1), (0, 0, 2))),
)


def all_matrices(a, b):
    """The matrices with normal rows of all maps between finite groups, found by trying all images."""
    found = []
    for images in itertools.product(b.all_elements(), repeat=a.n):
        sums = [combined(relation, images, b.n) for relation in a.relations]
        if all(b.is_zero(row) for row in sums):
            found.append(images)
    return found


def all_maps(a, b):
    return [Map(a, b, images) for images in all_matrices(a, b)]


def combined(row, images, width):
    """The sum of the images times the items of the row, worked out item by item."""
    return tuple(sum(item * image[j] for item, image in zip(row, images)) for j in range(width))


def plus(group, x, y):
    return group.normal(tuple(a + b for a, b in zip(x, y)))


def images_of(f):
    """The dict from the elements of the finite source to their values."""
    return {x: f.value(x) for x in f.source.all_elements()}


def members(subgroup):
    """The set of the normal rows of the elements of a subgroup of a finite group."""
    return {x for x in subgroup.group.all_elements() if subgroup.holds(x)}


FAULTS = (Fault, Malformed, Refused, NoText)


def turnable(chance, n, steps, most=2):
    """A turnable matrix of the size n and its inverse, made by adding multiples of rows to others."""
    rows = [[int(i == j) for j in range(n)] for i in range(n)]
    back = [list(row) for row in rows]
    for _ in range(steps if n > 1 else 0):
        i, j = chance.sample(range(n), 2)
        k = chance.randint(-most, most)
        rows[i] = [a + k * b for a, b in zip(rows[i], rows[j])]
        for row in back:
            row[j] -= k * row[i]
    if n and chance.randint(0, 1):
        rows[0] = [-item for item in rows[0]]
        for row in back:
            row[0] = -row[0]
    return rows, back


def multiplied(one, two, width):
    """The product of two matrices, worked out item by item."""
    return [[sum(a * row[j] for a, row in zip(line, two)) for j in range(width)] for line in one]


def chained_pieces(pieces):
    """The pieces in the order of point 6.6, their numbers changed such that each divides the next one."""
    found = []
    for n in sorted({n for n, _ in pieces}):
        sizes = [s for m, s in pieces if m == n and s > 0]
        for i in range(len(sizes)):
            for j in range(i + 1, len(sizes)):
                low = math.gcd(sizes[i], sizes[j])
                sizes[i], sizes[j] = low, sizes[i] * sizes[j] // low
        found += [(n, s) for s in sizes] + [(n, 0) for m, s in pieces if m == n and s == 0]
    return tuple(found)


class Pieced:
    """A complex with some pieces in some other bases, `count` degrees from `low` on.

    `ends` tells, degree by degree, which ends of which pieces the plain basis has; `bases` are pairs of
    a turnable matrix, whose rows are the basis of the complex, and its inverse.
    """

    def __init__(self, chance, low, count, pieces, steps=6):
        self.low, self.pieces = low, tuple(pieces)
        self.ends = [[] for _ in range(count)]
        for at, (n, s) in enumerate(pieces):
            self.ends[n - low].append((at, "low"))
            if s > 0:
                self.ends[n - low + 1].append((at, "high"))
        for place in self.ends:
            chance.shuffle(place)
        self.bases = [turnable(chance, len(place), steps) for place in self.ends]
        boundaries = [self.in_bases(index, self.plain(index), self, index - 1) for index in range(1, count)]
        self.complex = Complex(low, [len(place) for place in self.ends], boundaries)

    def plain(self, index):
        return [[self.pieces[at][1] if (end, other) == ("high", (at, "low")) else 0 for other in self.ends[index - 1]]
                for at, end in self.ends[index]]

    def in_bases(self, index, rows, other, place):
        """A matrix from the plain basis of a degree to that of another one, in the bases of both."""
        width = len(other.ends[place])
        return multiplied(multiplied(self.bases[index][0], rows, width), other.bases[place][1], width)


def pieced(chance, low, count, pieces, steps=6):
    return Pieced(chance, low, count, pieces, steps).complex


def random_pieces(chance, low, count, many, sizes=(0, 0, 1, 1, 2, 3, 4, 6), most=12):
    """Some pieces whose ends are among `count` degrees from `low` on, so few that no rank is above `most`."""
    ranks, found = [0] * count, []
    for _ in range(many if count else 0):
        n, s = low + chance.randrange(count), chance.choice(sizes)
        ends = [n - low] if s == 0 else [n - low, n - low + 1]
        if ends[-1] < count and all(ranks[end] < most for end in ends):
            found.append((n, s))
            for end in ends:
                ranks[end] += 1
    return found


def some_complexes(chance, count):
    """Pairs of a complex in some bases and its pieces."""
    for _ in range(count):
        low, degrees = chance.randint(-3, 3), chance.randint(0, 5)
        pieces = random_pieces(chance, low, degrees, chance.randint(0, 9), most=5)
        yield pieced(chance, low, degrees, pieces), chained_pieces(pieces)


def piece_map(chance, piece, other):
    """The items of some chain map from a piece to a piece: a dict from pairs of ends to integers."""
    (n, s), (m, t), k = piece, other, chance.randint(-2, 2)
    if n == m and s == 0:
        return {("low", "low"): k}
    if n == m and t > 0:
        common = math.gcd(s, t)
        return {("low", "low"): k * t // common, ("high", "high"): k * s // common}
    return {("high", "low"): k} if m == n + 1 and s > 0 else {}


def bounding_matrices(chance, c, d, most):
    """Some matrices m, from each degree of c to the next one of d, and the matrices of d m + m d."""
    moves = tuple(random_rows(chance, c.rank(n), d.rank(n + 1), most) for n in c.degrees())
    found = []
    for index, n in enumerate(c.degrees()):
        width = d.rank(n)
        ahead = multiplied(moves[index], d.boundary(n + 1), width)
        below = multiplied(c.boundary(n), moves[index - 1], width) if index else [[0] * width for _ in ahead]
        found.append(added(ahead, below))
    return moves, tuple(found)


def added(one, two):
    return tuple(tuple(a + b for a, b in zip(v, w)) for v, w in zip(one, two))


def chain_matrices(chance, one, two, bounding=1):
    """The matrices of some chain map between two Pieced complexes, with items of a homotopy up to `bounding`."""
    table = {(at, place): piece_map(chance, piece, other)
             for at, piece in enumerate(one.pieces) for place, other in enumerate(two.pieces)}
    found = []
    for index, n in enumerate(one.complex.degrees()):
        place, rows = n - two.low, [[] for _ in one.ends[index]]
        if 0 <= place < len(two.ends):
            plain = [[table[at, to].get((end, role), 0) for to, role in two.ends[place]] for at, end in one.ends[index]]
            rows = one.in_bases(index, plain, two, place)
        found.append(rows)
    _, more = bounding_matrices(chance, one.complex, two.complex, bounding)
    return tuple(added(rows, others) for rows, others in zip(found, more))


class Levelled:
    """A filtered complex with some pieces in some other bases, whose ends have levels.

    The pieces are (n, s, p, q): p is the level of the lower end, q that of the upper one.
    """

    def __init__(self, chance, low, count, pieces, steps=8):
        self.pieces = tuple(pieces)
        ends = [[] for _ in range(count)]
        for at, (n, s, p, q) in enumerate(pieces):
            ends[n - low].append((at, "low", p))
            if s > 0:
                ends[n - low + 1].append((at, "high", q))
        for place in ends:
            chance.shuffle(place)
        bases = [levelled_turnable(chance, [level for _, _, level in place], steps) for place in ends]
        boundaries = []
        for index in range(1, count):
            plain = [[pieces[at][1] if (end, other[:2]) == ("high", (at, "low")) else 0 for other in ends[index - 1]]
                     for at, end, _ in ends[index]]
            width = len(ends[index - 1])
            boundaries.append(multiplied(multiplied(bases[index][0], plain, width), bases[index - 1][1], width))
        self.complex = Complex(low, [len(place) for place in ends], boundaries)
        self.filtered = Filtered(self.complex, [[level for _, _, level in place] for place in ends])


def levelled_turnable(chance, levels, steps, most=2):
    """A turnable matrix that adds to rows multiples of rows of lesser or equal levels, and its inverse."""
    n = len(levels)
    rows = [[int(i == j) for j in range(n)] for i in range(n)]
    back = [list(row) for row in rows]
    for _ in range(steps if n > 1 else 0):
        i, j = chance.sample(range(n), 2)
        if levels[i] < levels[j]:
            i, j = j, i
        k = chance.randint(-most, most)
        rows[i] = [a + k * b for a, b in zip(rows[i], rows[j])]
        for row in back:
            row[j] -= k * row[i]
    return rows, back


def some_levelled(chance, count, degrees=4, many=7, most=4, sizes=(0, 1, 2, 3, 4)):
    """Levelled complexes of a few degrees near 0."""
    for _ in range(count):
        low, length, top = chance.randint(-2, 2), chance.randint(0, degrees), chance.randint(0, 9)
        found = []
        for n, s in random_pieces(chance, low, length, chance.randint(0, many), sizes, most):
            levels = sorted(chance.randint(0, top) for _ in range(2))
            found.append((n, s, levels[0], levels[1]))
        yield Levelled(chance, low, length, found)


def some_pieced(chance, count, degrees=5, many=7, most=5):
    """Pieced complexes of a few degrees near 0."""
    for _ in range(count):
        low, length = chance.randint(-2, 2), chance.randint(0, degrees)
        yield Pieced(chance, low, length, random_pieces(chance, low, length, chance.randint(0, many), most=most))


def some_chain_maps(chance, count, bounding=1):
    """Chain maps between small complexes, some of them from one to itself."""
    found = list(some_pieced(chance, count + 1))
    for at, (one, two) in enumerate(zip(found, found[1:])):
        two = one if at % 3 == 0 else two
        yield ChainMap(one.complex, two.complex, chain_matrices(chance, one, two, bounding))


def items_of(f):
    """All items of the matrices of a chain map."""
    return [item for rows in f.matrices for row in rows for item in row]
