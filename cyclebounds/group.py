"""Commutative groups, given by generators and relations (chapter 2)."""

from math import gcd

from cyclebounds.errors import Malformed, NoText, Refused
from cyclebounds.rows import add, are_rows, as_table, first_place, is_reduced, is_row, is_zero_row
from cyclebounds.rows import rest, scaled, span
from cyclebounds.smith import divisors
from cyclebounds.whole import is_natural, read_integer

MOST_GENERATORS = 40
MOST_ROWS = 200
MOST_LISTED = 2000
MOST_SIGNS = 2000


class Group:
    """The group of n generators with some relations, kept as their reduced table."""

    def __init__(self, n, relations=()):
        if not is_natural(n) or not are_rows(relations, n):
            raise Malformed("a group is a number of generators and a list of rows of this length")
        if n > MOST_GENERATORS or len(relations) > MOST_ROWS:
            raise Refused("large")
        self.n = n
        self.relations = span(as_table(relations), n)

    def is_row(self, value):
        """Tell whether a value is a row of the length n."""
        return is_row(value, self.n)

    def normal(self, x):
        """Return the normal row of the element of a row."""
        if not is_row(x, self.n):
            raise Malformed("no row of the group")
        return rest(self.relations, x)

    def same(self, x, y):
        """Tell whether two rows are one element."""
        return self.normal(x) == self.normal(y)

    def is_zero(self, x):
        """Tell whether the element of a row is 0."""
        return is_zero_row(self.normal(x))

    def order_of(self, x):
        """Return the order of the element of a row, 0 if it is endless."""
        return order_by(self.relations, self.normal(x))

    def order(self):
        """Return the number of elements, 0 if there is no end of them."""
        return product_of_pivots(self.relations, self.n)

    def invariants(self):
        """Return the pair of the tuple of the divisors above 1 and the rank."""
        found = divisors(self.relations, self.n)
        return tuple([divisor for divisor in found if divisor > 1]), self.n - len(found)

    def all_elements(self):
        """Return the ascending tuple of the normal rows of all elements."""
        order = self.order()
        if order == 0:
            raise Refused("endless")
        if order > MOST_LISTED:
            raise Refused("many")
        rows = [()]
        for place, relation in enumerate(self.relations):
            rows = [row + (item,) for row in rows for item in range(relation[place])]
        return tuple(rows)

    def __eq__(self, other):
        return isinstance(other, Group) and self.n == other.n and self.relations == other.relations

    def __str__(self):
        if not self.relations:
            return f"{self.n}:"
        return f"{self.n}: {rows_text(self.relations)}"


def order_by(space, x):
    """Return the least k from 1 on with k x in a lattice, 0 if there is none."""
    found = 1
    for row in space:
        place = first_place(row)
        # The multiple of the row that takes x to 0 at the pivot has to be a whole one.
        factor = row[place] // gcd(row[place], x[place])
        x = scaled(x, factor)
        x = add(x, scaled(row, -(x[place] // row[place])))
        found = found * factor
    return found if is_zero_row(x) else 0


def product_of_pivots(space, n):
    """Return the number of classes of rows of the length n by a lattice, 0 if there is no end of them."""
    if len(space) < n:
        return 0
    found = 1
    for place, row in enumerate(space):
        found = found * row[place]
    return found


def rows_text(rows):
    """Return the text of some rows: items with spaces, rows with a comma and a space between."""
    return ", ".join([" ".join([str(item) for item in row]) for row in rows])


def read_group(text):
    """Return the group with this text."""
    if not isinstance(text, str) or len(text) > MOST_SIGNS:
        raise NoText(0)
    head, colon, tail = text.partition(":")
    n = read_integer(head)
    if n is None or n < 0 or n > MOST_GENERATORS or colon == "":
        raise NoText(0)
    relations = ()
    if tail != "":
        if not tail.startswith(" "):
            raise NoText(0)
        relations = read_rows(tail[1:])
    if not is_reduced(relations, n):
        raise NoText(0)
    return Group(n, relations)


def read_rows(text):
    """Return the rows with this text; an item that is no integer is read as None."""
    return tuple([tuple([read_integer(word) for word in part.split(" ")]) for part in text.split(", ")])


def free_group(n):
    """Return the group of n generators without relations."""
    return Group(n)


def cyclic_group(k):
    """Return the group of one generator whose multiple by k is 0, the integers for k = 0."""
    if not is_natural(k):
        raise Malformed("no integer from 0 on")
    return Group(1, ((k,),))


def are_isomorphic(a, b):
    """Tell whether there is a map between two groups that has an inverse."""
    return a.invariants() == b.invariants()
