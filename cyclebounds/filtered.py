"""Filtered complexes, their lattices of near cycles and boundaries, and steady pages (points 10.1, 10.2 and 10.7)."""

from cyclebounds.complexes import Complex
from cyclebounds.errors import Malformed, Refused
from cyclebounds.maps import is_within
from cyclebounds.rows import are_rows, as_table, kernel, span, times, unit_row

MOST_LEVEL = 9


class Filtered:
    """A complex with a level for each basis row of each degree."""

    def __init__(self, c, levels):
        if not isinstance(c, Complex) or not are_levels(levels, c.ranks):
            raise Malformed("a filtered complex is a complex and a list of levels for each of its degrees")
        self.complex = c
        self.levels = as_table(levels)
        if not are_kept(c, self.levels):
            raise Refused("levels")

    def __eq__(self, other):
        return isinstance(other, Filtered) and self.complex == other.complex and self.levels == other.levels

    def steady(self):
        """Return the number of the first page from which on all maps are 0."""
        for r in range(MOST_LEVEL, -1, -1):
            if any([moves(self, r, n) for n in self.complex.degrees()]):
                return r + 1
        return 0


def are_levels(value, ranks):
    """Tell whether a value is a list or tuple of as many levels, in a list or tuple each, as the ranks tell."""
    if not isinstance(value, (list, tuple)) or len(value) != len(ranks):
        return False
    if not all([are_rows([row], rank) for row, rank in zip(value, ranks)]):
        return False
    return all([0 <= level <= MOST_LEVEL for row in value for level in row])


def are_kept(c, levels):
    """Tell whether no boundary has an item other than 0 at a greater level than that of its row."""
    for rows, below, above in zip(c.boundaries, levels, levels[1:]):
        for row, top in zip(rows, above):
            if any([item != 0 and level > top for item, level in zip(row, below)]):
                return False
    return True


def levels_at(f, n):
    """Return the levels of the basis rows of a degree."""
    index = n - f.complex.low
    return f.levels[index] if 0 <= index < len(f.levels) else ()


def places_up_to(f, p, n):
    """Return the places of the basis rows of a degree whose levels are at most p."""
    return [place for place, level in enumerate(levels_at(f, n)) if level <= p]


def picked(rows, chosen, places):
    """Return the matrix of the items at some places of the chosen rows."""
    return tuple([tuple([rows[i][j] for j in places]) for i in chosen])


def near_lattice(f, r, p, n):
    """Return the lattice of the rows of F_p of a degree whose boundaries are in F_(p-r)."""
    inside = places_up_to(f, p, n)
    below = levels_at(f, n - 1)
    outside = [place for place, level in enumerate(below) if level > p - r]
    rank = f.complex.rank(n)
    # Zeros at the other places keep the table reduced.
    found = kernel(picked(f.complex.boundary(n), inside, outside), len(outside))
    return times(found, [unit_row(rank, i) for i in inside], rank)


def bounding_lattice(f, r, p, n):
    """Return the lattice of the rows that count as 0 among those of near_lattice."""
    rank = f.complex.rank(n)
    turned = times(near_lattice(f, r - 1, p + r - 1, n + 1), f.complex.boundary(n + 1), rank)
    return span(near_lattice(f, r - 1, p - 1, n) + turned, rank)


def moves(f, r, n):
    """Tell whether some map of the page r from a degree is not 0."""
    above, below = levels_at(f, n), levels_at(f, n - 1)
    # Elsewhere one of both groups has one element.
    for p in [level for level in range(MOST_LEVEL + 1) if level in above and level - r in below]:
        turned = times(near_lattice(f, r, p, n), f.complex.boundary(n), f.complex.rank(n - 1))
        if not is_within(turned, bounding_lattice(f, r, p - r, n - 1)):
            return True
    return False


def part_of(f, p):
    """Return the complex of the basis rows of the level p."""
    c = f.complex
    chosen = [[place for place, level in enumerate(row) if level == p] for row in f.levels]
    boundaries = [picked(rows, above, below) for rows, below, above in zip(c.boundaries, chosen, chosen[1:])]
    return Complex(c.low, [len(row) for row in chosen], boundaries)
