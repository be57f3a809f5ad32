"""Divisors, bars, determinants and inverses of matrices (points 1.6 and 1.7)."""

from math import gcd

from cyclebounds.errors import Refused
from cyclebounds.rows import add, blend, dot, is_matrix, scaled, solutions, span, transposed
from cyclebounds.rows import unit_matrix, unit_row, with_places
from cyclebounds.whole import combination


def is_diagonal(rows):
    """Tell whether all items other than those at the indexes i, i are 0."""
    return not any([any([item != 0 and i != j for j, item in enumerate(row)]) for i, row in enumerate(rows)])


def divisors(rows, width):
    """Return the tuple of the divisors of a matrix."""
    upper = span(rows, width)
    size = len(upper)
    table = span(transposed(upper, width), size)
    # Each round leaves the first rows and columns clean or their pivots smaller.
    while not is_diagonal(table):
        table = span(transposed(table, size), size)
    return chained([row[i] for i, row in enumerate(table)])


def chained(numbers):
    """Return the divisors of the matrix with these numbers above 0 at the indexes i, i."""
    found = list(numbers)
    for i in range(len(found)):
        for j in range(i + 1, len(found)):
            divisor = gcd(found[i], found[j])
            found[j] = found[i] // divisor * found[j]
            found[i] = divisor
    return tuple(found)


def smith(rows, width):
    """Return (u, v, divisors): turnable u and v with the divisors alone in u M v."""
    matrix, u, columns = turned(rows, unit_matrix(len(rows)), unit_matrix(width), width)
    while not is_diagonal(matrix):
        matrix, u, columns = turned(matrix, u, columns, width)
    sizes = [row[i] for i, row in enumerate(matrix) if i < width and row[i] != 0]
    u, columns, found = in_chain(u, columns, sizes)
    return u, transposed(columns, width), found


def turned(rows, u, columns, width):
    """Reduce the rows of a matrix and then its columns; return it, and the rows and columns that turn so."""
    n = len(u)
    lower, u = reduced_beside(rows, u, width)
    flipped, columns = reduced_beside(transposed(lower, width), columns, n)
    return transposed(flipped, n), u, columns


def reduced_beside(rows, tails, width):
    """Reduce rows together with independent tails; return the new rows and the new tails."""
    # The tails are reduced as well where the rows leave a choice, so their items stay small.
    table = span([row + tail for row, tail in zip(rows, tails)], width + len(tails))
    return tuple([row[:width] for row in table]), tuple([row[width:] for row in table])


def in_chain(u, columns, sizes):
    """Return the rows of u, the columns of v and the sizes, changed so that each divides the next one."""
    left, right, found = list(u), list(columns), list(sizes)
    for i in range(len(found)):
        for j in range(i + 1, len(found)):
            if found[j] % found[i] != 0:
                divisor, x, y = combination(found[i], found[j])
                low, high = found[i] // divisor, found[j] // divisor
                left[i], left[j] = blend(left[i], x, left[j], y), blend(left[i], -high, left[j], low)
                right[i], right[j] = add(right[i], right[j]), blend(right[i], -y * high, right[j], x * low)
                found[i], found[j] = divisor, found[i] * high
    return tuple(left), tuple(right), tuple(found)


def bar(rows, width, b):
    """Return None if a row x has x M = b for the matrix M of the rows, otherwise (t, m) of point 1.7."""
    pairs = with_places(span(rows, width))
    left = b
    for index, (place, row) in enumerate(pairs):
        quotient = left[place] // row[place]
        left = blend(left, 1, row, -quotient)
        if left[place] != 0:
            # The product of t and the row is m, those of t and the other rows are 0.
            t, factor = balanced(pairs[:index], unit_row(width, place))
            return t, factor * row[place]
    for place, item in enumerate(left):
        if item != 0:
            t, _ = balanced(pairs, unit_row(width, place))
            return t, abs(dot(t, b)) + 1
    return None


def balanced(pairs, t):
    """Return a row whose products with the rows of the pairs are 0, and a factor above 0.

    It is the unit row t times the factor, but for its items at the places of the
    pairs. Its items have no common divisor above 1.
    """
    factor = 1
    for place, row in reversed(pairs):
        product = dot(row, t)
        step = row[place] // gcd(row[place], product)
        t = scaled(t, step)
        t = blend(t, 1, unit_row(len(t), place), -(product * step // row[place]))
        factor = factor * step
    return t, factor


def determinant(matrix):
    """Return the determinant of a matrix from n to n, without a fraction on the way."""
    rows, last, sign = list(matrix), 1, 1
    while rows:
        chosen = [i for i, row in enumerate(rows) if row[0] != 0]
        if not chosen:
            return 0
        at = chosen[0]
        head = rows[at]
        # The row moves up over `at` rows, each of which turns the sign.
        sign = sign if at % 2 == 0 else -sign
        others = rows[:at] + rows[at + 1:]
        rows = [tuple([item // last for item in blend(row, head[0], head, -row[0])[1:]]) for row in others]
        last = head[0]
    return sign * last


def is_turnable(value, n):
    """Tell whether a value is a turnable matrix from n to n."""
    return is_matrix(value, n, n) and abs(determinant(value)) == 1


def inverse(matrix):
    """Return the inverse of a matrix from n to n; refuse one that is not turnable."""
    n = len(matrix)
    table = solutions(matrix, n, ())
    if tuple([row[:n] for row in table]) != unit_matrix(n):
        raise Refused("inverse")
    return tuple([row[n:] for row in table])
