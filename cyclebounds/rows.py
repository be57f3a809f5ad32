"""Rows, matrices and lattices of integers, without divisors (chapter 1).

A lattice is given by its reduced table. Inside this file the rows of such a
table are also kept as a list of pairs of the place of the pivot and the row.
"""

from cyclebounds.whole import combination, is_integer


def is_row(value, n):
    """Tell whether a value is a tuple of n integers."""
    if not isinstance(value, tuple) or len(value) != n:
        return False
    return all([is_integer(item) for item in value])


def is_matrix(value, n, width):
    """Tell whether a value is a tuple of n rows of this width."""
    if not isinstance(value, tuple) or len(value) != n:
        return False
    return all([is_row(row, width) for row in value])


def are_rows(value, width):
    """Tell whether a value is a list or tuple of lists or tuples of `width` integers."""
    if not isinstance(value, (list, tuple)):
        return False
    return all([isinstance(row, (list, tuple)) and is_row(tuple(row), width) for row in value])


def as_table(value):
    """Return lists or tuples of integers as a tuple of tuples."""
    return tuple([tuple(row) for row in value])


def joined(rows):
    """Return the row of the items of all rows, one row after the other."""
    return tuple([item for row in rows for item in row])


def parted(x, n, width):
    """Return the n rows of this width that stand in a row, one after the other."""
    return tuple([x[i * width:(i + 1) * width] for i in range(n)])


def unit_row(n, i):
    """Return the row of the length n with 1 at the index i and 0 elsewhere."""
    return tuple([1 if j == i else 0 for j in range(n)])


def unit_matrix(n):
    """Return the unit matrix of the size n."""
    return tuple([unit_row(n, i) for i in range(n)])


def zero_matrix(n, width):
    """Return the matrix of n rows of zeros of this width."""
    return tuple([(0,) * width for _ in range(n)])


def add(v, w):
    """Return the sum of two rows of one length."""
    return tuple([a + b for a, b in zip(v, w)])


def scaled(v, c):
    """Return the row v times the integer c."""
    return tuple([c * item for item in v])


def scaled_rows(rows, c):
    """Return the matrix of the rows times the integer c."""
    return tuple([scaled(row, c) for row in rows])


def dot(v, w):
    """Return the product of two rows of one length."""
    return sum([a * b for a, b in zip(v, w)])


def blend(v, a, w, b):
    """Return the row a v + b w."""
    return tuple([a * p + b * q for p, q in zip(v, w)])


def moved(x, rows, width):
    """Return the row x M for the matrix M of the rows."""
    found = (0,) * width
    for item, row in zip(x, rows):
        if item != 0:
            found = blend(found, 1, row, item)
    return found


def times(one, two, width):
    """Return the product of two matrices, of which the second one has this width."""
    return tuple([moved(row, two, width) for row in one])


def transposed(rows, width):
    """Return the tuple of the columns."""
    return tuple([tuple([row[j] for row in rows]) for j in range(width)])


def is_zero_row(x):
    """Tell whether a row has no item other than 0."""
    return not any(list(x))


def first_place(x):
    """Return the index of the first item other than 0, the length without one."""
    for place, item in enumerate(x):
        if item != 0:
            return place
    return len(x)


def with_places(space):
    """Return the pairs of the pivots and the rows of a reduced table."""
    return [(first_place(row), row) for row in space]


def lessened(pairs, x):
    """Return the row x less the multiples of the rows that make it least at their pivots."""
    for place, row in pairs:
        quotient = x[place] // row[place]
        if quotient != 0:
            x = blend(x, 1, row, -quotient)
    return x


def cleared(row, x, place):
    """Return two rows that span what both span, the second one with 0 at the place."""
    divisor, a, b = combination(row[place], x[place])
    low, high = row[place] // divisor, x[place] // divisor
    return blend(row, a, x, b), blend(x, low, row, -high)


def with_row(pairs, x, width):
    """Return the pairs of the lattice that one more row spans with a reduced one.

    All rows are kept least by the later ones at every step: so the items stay
    as small as determinants are, however many rows are added.
    """
    x = lessened(pairs, x)
    if is_zero_row(x):
        return pairs
    upper = []
    for index, (place, row) in enumerate(pairs):
        first = first_place(x)
        later = pairs[index + 1:]
        if first < place or first == width:
            later = pairs[index:]
            break
        if first == place:
            row, x = cleared(row, x, place)
            row, x = lessened(later, row), lessened(later, x)
        upper.append((place, row))
    else:
        later = []
    first = first_place(x)
    if first < width:
        x = lessened(later, x if x[first] > 0 else scaled(x, -1))
        upper.append((first, x))
    return settled(upper, later)


def settled(upper, later):
    """Return the pairs of both lists, each row least by those behind it."""
    found = later
    for place, row in reversed(upper):
        found = [(place, lessened(found, row))] + found
    return found


def span(rows, width):
    """Return the reduced table of the lattice that the rows span."""
    pairs = []
    for row in rows:
        pairs = with_row(pairs, row, width)
    return tuple([row for _, row in pairs])


def is_reduced(value, width):
    """Tell whether a value is a reduced table of this width."""
    if not isinstance(value, tuple) or not is_matrix(value, len(value), width):
        return False
    last = -1
    for index, row in enumerate(value):
        place = first_place(row)
        if place <= last or place == width or row[place] < 0:
            return False
        if any([upper[place] < 0 or upper[place] >= row[place] for upper in value[:index]]):
            return False
        last = place
    return True


def rest(space, x):
    """Return the rest of a row by a lattice."""
    return lessened(with_places(space), x)


def holds(space, x):
    """Tell whether a row is in a lattice."""
    return is_zero_row(rest(space, x))


def coordinates(space, x):
    """Return the multiples of the rows of a reduced table whose sum is x, or None."""
    found = []
    for place, row in with_places(space):
        quotient = x[place] // row[place]
        found.append(quotient)
        x = blend(x, 1, row, -quotient)
    return tuple(found) if is_zero_row(x) else None


def sum_of(a, b, width):
    """Return the lattice of all sums of a row of the one and a row of the other."""
    return span(a + b, width)


def common_part(a, b, width):
    """Return the lattice of the rows that are in both."""
    # A row of the span that begins with zeros is (v + w, v), v of a and w = -v of b.
    doubled = [row + row for row in a] + [row + (0,) * width for row in b]
    return behind(span(doubled, 2 * width), width)


def behind(table, width):
    """Return the ends, from the index `width` on, of the rows that are zeros before it."""
    return tuple([row[width:] for row in table if first_place(row) >= width])


def solutions(rows, width, space):
    """Return the reduced table of all rows (x M + s, x), s of a lattice, M of the rows.

    `origin_in` reads it: one table serves for all right sides.
    """
    n = len(rows)
    tails = [row + unit_row(n, i) for i, row in enumerate(rows)]
    return span([row + (0,) * n for row in space] + tails, width + n)


def origin_in(table, width, b):
    """Return a row x with b - x M in the lattice, for a table of `solutions`, or None."""
    # Zeros are added for x, as many as the table is wider than b.
    size = len(table[0]) - width if table else 0
    found = rest(table, b + (0,) * size)
    if first_place(found) < width:
        return None
    return scaled(found[width:], -1)


def preimage(rows, width, space):
    """Return the lattice of all rows x with x M in a lattice, for the matrix M of the rows."""
    return behind(solutions(rows, width, space), width)


def kernel(rows, width):
    """Return the lattice of all rows x with x M = 0, as wide as there are rows."""
    return preimage(rows, width, ())


def solve(rows, width, b):
    """Return a row x with x M = b for the matrix M of the rows, or None."""
    return origin_in(solutions(rows, width, ()), width, b)
