"""Plain data, logs, and the first entry that is wrong (points 12.5 and 12.6)."""

from cyclebounds.errors import Fault, Malformed, NoText
from cyclebounds.replies import Reply, defined, is_right
from cyclebounds.sheet import is_word
from cyclebounds.whole import is_integer, read_integer

MOST_DEEP = 20
MOST_LETTERS = 12


def is_label(value):
    """Tell whether a value is a string of 1 to 12 small letters."""
    return isinstance(value, str) and is_word(value, MOST_LETTERS)


def is_plain(value, deep):
    """Tell whether a value is an integer, a label, or a tuple of plain data, nested at most so deep."""
    if isinstance(value, tuple):
        return deep > 0 and all([is_plain(item, deep - 1) for item in value])
    return is_integer(value) or is_label(value)


def written(data):
    """Return the written form of plain data."""
    if isinstance(data, tuple):
        return "(" + " ".join([written(item) for item in data]) + ")"
    return str(data)


def write_data(data):
    """Return the written form of plain data."""
    if not is_plain(data, MOST_DEEP):
        raise Malformed("no plain data")
    return written(data)


def read_data(text):
    """Return the plain data with this written form."""
    if not isinstance(text, str):
        raise NoText(0)
    # The rows that are not closed yet, the outermost first; the first one holds the whole.
    stack = [[]]
    for word in text.replace("(", "( ").replace(")", " )").split(" "):
        if word == "(":
            stack.append([])
        elif word == ")" and len(stack) > 1:
            row = stack.pop()
            stack[-1].append(tuple(row))
        elif word != "":
            stack[-1].append(read_word(word))
    found = stack[0][0] if len(stack) == 1 and len(stack[0]) == 1 else None
    # What was read may have been written in another way.
    if not is_plain(found, MOST_DEEP) or written(found) != text:
        raise NoText(0)
    return found


def read_word(word):
    """Return the integer or the label that a word writes, or None."""
    return word if is_label(word) else read_integer(word)


def is_text(value):
    """Tell whether a value is a string without a line feed."""
    return isinstance(value, str) and "\n" not in value


def is_entry(value):
    """Tell whether a value is a pair of a line and a reply that can be written."""
    if not isinstance(value, tuple) or len(value) != 2 or not isinstance(value[1], Reply):
        return False
    line, reply = value
    if not is_text(line) or not is_label(reply.kind) or not is_text(reply.text):
        return False
    return isinstance(reply.data, tuple) and is_plain(reply.data, MOST_DEEP)


def write_log(entries):
    """Return the written form of a list of entries."""
    if not all([is_entry(entry) for entry in entries]):
        raise Malformed("no entries")
    return "".join([f"> {line}\n= {reply.kind} {reply.text}\n# {written(reply.data)}\n" for line, reply in entries])


def read_log(text):
    """Return the list of entries with this written form."""
    if not isinstance(text, str):
        raise NoText(0)
    lines = text.split("\n")
    many = len(lines) - 1
    found = []
    for at, line in enumerate(lines[:many]):
        part = read_part(line, at % 3)
        if part is None:
            raise NoText(at)
        found.append(part)
    # Behind the last line feed nothing stands.
    if many % 3 != 0 or lines[many] != "":
        raise NoText(many)
    return [(found[k], Reply(found[k + 1][0], found[k + 1][1], found[k + 2])) for k in range(0, many, 3)]


def read_part(line, place):
    """Return what the line at a place of an entry, 0 to 2, tells, None if it has not its form."""
    if not line.startswith(("> ", "= ", "# ")[place]):
        return None
    rest = line[2:]
    if place == 0:
        return rest
    return read_kind(rest) if place == 1 else read_tuple(rest)


def read_kind(text):
    """Return the pair of the kind and the text of a reply, or None."""
    kind, space, rest = text.partition(" ")
    return (kind, rest) if is_label(kind) and space != "" else None


def read_tuple(text):
    """Return the tuple with a written form, or None."""
    try:
        found = read_data(text)
    except Fault:
        return None
    return found if isinstance(found, tuple) else None


def first_wrong(entries):
    """Return the index of the first item that is no right entry, beginning without definitions, or -1."""
    names = {}
    for at, entry in enumerate(entries):
        if not is_right(names, entry):
            return at
        found = defined(names, entry[0])
        if found is not None:
            name, thing = found
            names[name] = thing
    return -1
