"""Complexes of rows of integers, their texts, and those made of others (points 6.1, 6.2, 6.4 and 6.9)."""

from cyclebounds.errors import Fault, Malformed, NoText, Refused
from cyclebounds.group import MOST_SIGNS
from cyclebounds.rows import are_rows, as_table, is_row, moved, scaled_rows, times, transposed, zero_matrix
from cyclebounds.whole import is_integer, is_natural, read_integer, sign_of

MOST_DEGREE = 20
MOST_DEGREES = 8
MOST_RANK = 12


class Complex:
    """The complex with some ranks, from its lowest degree on, and with the boundaries between them."""

    def __init__(self, low, ranks, boundaries):
        if not is_integer(low) or not are_ranks(ranks) or not are_matrices(boundaries, ranks[1:], ranks):
            raise Malformed("a complex is a degree, a list of ranks and a list of the matrices between them")
        check_ranks(low, ranks)
        self.low = low
        self.ranks = tuple(ranks)
        self.boundaries = tuple([as_table(rows) for rows in boundaries])
        if not are_closed(self.boundaries, self.ranks):
            raise Refused("boundary")

    def rank(self, n):
        """Return the rank in a degree."""
        index = n - self.low
        return self.ranks[index] if 0 <= index < len(self.ranks) else 0

    def boundary(self, n):
        """Return the boundary of a degree, a matrix to the degree below."""
        index = n - self.low
        if 0 < index < len(self.ranks):
            return self.boundaries[index - 1]
        return zero_matrix(self.rank(n), self.rank(n - 1))

    def degrees(self):
        """Return the tuple of the degrees that have a rank."""
        return tuple(range(self.low, self.low + len(self.ranks)))

    def is_row(self, n, value):
        """Tell whether a value is a row of a degree."""
        return is_row(value, self.rank(n))

    def turned(self, n, x):
        """Return the boundary of a row of a degree."""
        return moved(x, self.boundary(n), self.rank(n - 1))

    def euler(self):
        """Return the sum of the ranks in even degrees less that of the ranks in odd degrees."""
        return sum([sign_of(n) * self.rank(n) for n in self.degrees()])

    def __eq__(self, other):
        if not isinstance(other, Complex):
            return False
        return self.low == other.low and self.ranks == other.ranks and self.boundaries == other.boundaries

    def __str__(self):
        return f"{self.low}:{ranks_text(self.ranks)}{boundaries_text(self.boundaries)}"


def check_ranks(low, ranks):
    """Refuse a complex with this lowest degree and these ranks if it would be too large."""
    if abs(low) > MOST_DEGREE or len(ranks) > MOST_DEGREES or max([0] + list(ranks)) > MOST_RANK:
        raise Refused("large")


def are_ranks(value):
    """Tell whether a value is a list or tuple of integers from 0 on."""
    return isinstance(value, (list, tuple)) and all([is_natural(item) for item in value])


def are_matrices(value, sizes, widths):
    """Tell whether a value is a list or tuple of matrices with these numbers of rows and these widths."""
    if not isinstance(value, (list, tuple)) or len(value) != len(sizes):
        return False
    shapes = list(zip(sizes, widths))
    return all([are_rows(rows, width) and len(rows) == size for rows, (size, width) in zip(value, shapes)])


def are_closed(boundaries, ranks):
    """Tell whether each two boundaries, one after the other, are 0."""
    for index in range(len(boundaries) - 1):
        low, high, width = boundaries[index], boundaries[index + 1], ranks[index]
        if times(high, low, width) != zero_matrix(len(high), width):
            return False
    return True


def ranks_text(ranks):
    """Return the text of the ranks, each behind a space."""
    return "".join([f" {rank}" for rank in ranks])


def boundaries_text(boundaries):
    """Return the text of the boundaries, each behind a semicolon and a space."""
    return "".join([f"; {matrix_text(rows)}" for rows in boundaries])


def matrix_text(rows):
    """Return the text of a matrix."""
    return ", ".join([row_text(row) for row in rows]) if rows else "-"


def row_text(row):
    """Return the text of a row."""
    return " ".join([str(item) for item in row]) if row else "."


def read_complex(text):
    """Return the complex with this text."""
    if not isinstance(text, str) or len(text) > MOST_SIGNS:
        raise NoText(0)
    parts = text.split("; ")
    head, _, tail = parts[0].partition(":")
    ranks = [read_integer(word) for word in tail.split(" ")[1:]]
    matrices = [read_matrix(part) for part in parts[1:]]
    try:
        found = Complex(read_integer(head), ranks, matrices)
    except Fault:
        raise NoText(0)
    # What was read may have been written in another way.
    if str(found) != text:
        raise NoText(0)
    return found


def read_matrix(text):
    """Return the matrix with this text; an item that is no integer is read as None."""
    return [read_row(part) for part in text.split(", ")] if text != "-" else []


def read_row(text):
    """Return the row with this text; an item that is no integer is read as None."""
    return [read_integer(word) for word in text.split(" ")] if text != "." else []


def moved_by(c, k):
    """Return the complex that has in each degree n what c has in n - k."""
    return Complex(c.low + k, c.ranks, [scaled_rows(rows, sign_of(k)) for rows in c.boundaries])


def dual(c):
    """Return the dual complex."""
    top = c.low + max(len(c.ranks) - 1, 0)
    flipped = [transposed(rows, width) for rows, width in zip(c.boundaries, c.ranks)]
    return Complex(-top, c.ranks[::-1], flipped[::-1])


def sum_of_complexes(a, b):
    """Return the sum of two complexes."""
    if not a.ranks or not b.ranks:
        return a if a.ranks else b
    low = min(a.low, b.low)
    top = max(a.degrees()[-1], b.degrees()[-1])
    ranks = [a.rank(n) + b.rank(n) for n in range(low, top + 1)]
    return Complex(low, ranks, [beside(a, b, n) for n in range(low + 1, top + 1)])


def beside(a, b, n):
    """Return the boundary of a degree of the sum of two complexes."""
    left, right = a.rank(n - 1), b.rank(n - 1)
    ahead = [row + (0,) * right for row in a.boundary(n)]
    return ahead + [(0,) * left + row for row in b.boundary(n)]
