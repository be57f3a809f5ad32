"""The lines of worksheets and the texts of matrices (points 12.1 and 12.2)."""

from cyclebounds.complexes import matrix_text, read_complex, read_matrix
from cyclebounds.errors import NoText
from cyclebounds.group import MOST_SIGNS
from cyclebounds.rows import as_table
from cyclebounds.whole import is_integer, read_integer

MOST_LETTERS = 8
MOST_NUMBER = 99

# What stands behind the first token: n a new name, c a complex, f a chain map, a one of both,
# N and M integers, X a row, = what follows the first equals sign.
FORMS = {
    "let": "n=",
    "map": "ncc=",
    "sum": "ncc",
    "product": "ncc",
    "matrices": "ncc",
    "moved": "ncN",
    "dual": "nc",
    "cone": "nf",
    "plus": "nff",
    "minus": "nff",
    "then": "nff",
    "show": "a",
    "homology": "cN",
    "modulo": "cMN",
    "induced": "fN",
    "pieces": "c",
    "euler": "c",
    "filling": "cNX",
    "homotopic": "ff",
    "equivalent": "cc",
}


def matrices_text(matrices):
    """Return the text of some matrices."""
    return "; ".join([matrix_text(rows) for rows in matrices])


def read_matrices(text):
    """Return the tuple of the matrices with this text."""
    if not isinstance(text, str) or len(text) > MOST_SIGNS:
        raise NoText(0)
    if text == "":
        return ()
    found = tuple([as_table(read_matrix(part)) for part in text.split("; ")])
    if not all([is_integer(item) for rows in found for row in rows for item in row]):
        raise NoText(0)
    return found


def is_word(text, most):
    """Tell whether a string has 1 to `most` small letters and nothing else."""
    return 0 < len(text) <= most and all(["a" <= letter <= "z" for letter in text])


def is_line(value):
    """Tell whether a value is a line."""
    if not isinstance(value, str) or len(value) > MOST_SIGNS:
        return False
    return all([" " <= sign <= "~" for sign in value])


def read_line(line):
    """Return the command of a line, a tuple of its first token and what stands behind it."""
    if not is_line(line):
        raise NoText(0)
    words = [word for word in line.split(" ") if word != ""]
    if not words or line.startswith("#"):
        return ("empty",)
    form = FORMS.get(words[0])
    if form is None:
        raise NoText(0)
    parts = with_tail(line, words, form) if form.endswith("=") else read_parts(words[1:], form)
    return (words[0],) + parts


def with_tail(line, words, form):
    """Return the parts of a line that has an equals sign as a token and a text behind it."""
    size = len(form)
    if len(words) <= size or words[size] != "=":
        raise NoText(0)
    parts = read_parts(words[1:size], form[:-1])
    tail = line.partition("=")[2].strip(" ")
    return parts + (read_complex(tail) if words[0] == "let" else read_matrices(tail),)


def read_parts(words, form):
    """Return the tuple of what tokens stand for, one for each sign of a form."""
    if len(words) != len(form):
        raise NoText(0)
    found = tuple([read_part(word, sign) for word, sign in zip(words, form)])
    if any([part is None for part in found]):
        raise NoText(0)
    return found


def read_part(word, sign):
    """Return what a token stands for by a sign of a form, or None."""
    if sign == "N" or sign == "M":
        return read_number(word, 0 if sign == "M" else -MOST_NUMBER)
    if sign == "X":
        return read_items(word)
    return word if is_word(word, MOST_LETTERS) else None


def read_number(word, low):
    """Return the integer, from `low` to 99, that a token writes, or None."""
    number = read_integer(word)
    return number if number is not None and low <= number <= MOST_NUMBER else None


def read_items(word):
    """Return the row that a token writes, or None."""
    if word == "-":
        return ()
    items = tuple([read_integer(part) for part in word.split(",")])
    return items if all([item is not None for item in items]) else None
