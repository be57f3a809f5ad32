"""Replies to lines, what lines define, and right entries (points 12.2, 12.3 and 12.5)."""

from cyclebounds.chain import ChainMap, check_parallel
from cyclebounds.checker import takes_equivalent, takes_filling, takes_homotopic
from cyclebounds.coefficients import homology_modulo
from cyclebounds.complexes import Complex, dual, matrix_text, moved_by, sum_of_complexes
from cyclebounds.cone import cone
from cyclebounds.errors import Fault, Malformed, NoText, Refused
from cyclebounds.homology import check_cycle, homology
from cyclebounds.papers import equivalence_paper, filling_paper, homotopy_paper
from cyclebounds.products import matrix_complex, tensor_complex
from cyclebounds.sheet import FORMS, matrices_text, read_line
from cyclebounds.standard import pieces

DEFINING = ("let", "map", "sum", "product", "matrices", "moved", "dual", "cone", "plus", "minus", "then")
JUDGED = ("filling", "homotopic", "equivalent")
YES = ("filling", "homotopy", "equivalence")


class Reply:
    """What a console says to a line."""

    def __init__(self, kind, text="", data=()):
        self.kind = kind
        self.text = text
        self.data = data

    def __eq__(self, other):
        if not isinstance(other, Reply):
            return False
        return self.kind == other.kind and self.text == other.text and self.data == other.data


def reply_to(names, line):
    """Return the reply to a line over definitions."""
    try:
        return carried_out(names, read_line(line))
    except NoText:
        return Reply("error", "text")
    except Malformed:
        return Reply("error", "malformed")
    except Refused as fault:
        return Reply("error", f"refused {fault.reason}")


def defined(names, line):
    """Return the pair of the name and the complex or chain map that a line defines, or None."""
    try:
        command = read_line(line)
        if command[0] not in DEFINING:
            return None
        return command[1], made(command[0], looked_up(names, command))
    except Fault:
        return None


def carried_out(names, command):
    """Return the reply to a command that raises nothing."""
    word = command[0]
    if word == "empty":
        return Reply("done")
    parts = looked_up(names, command)
    if word in DEFINING:
        return shown(made(word, parts))
    if word in JUDGED:
        paper = paper_of(word, parts)
        return Reply(word, verdict(paper), paper)
    return told(word, parts)


def looked_up(names, command):
    """Return the parts of a command without a new name, and with what is defined in the place of its name."""
    pairs = [(sign, part) for sign, part in zip(FORMS[command[0]], command[1:]) if sign != "n"]
    if any([sign in "cfa" and part not in names for sign, part in pairs]):
        raise Refused("name")
    found = [(sign, names[part] if sign in "cfa" else part) for sign, part in pairs]
    if any([sign == "c" and not isinstance(part, Complex) for sign, part in found]):
        raise Refused("kind")
    if any([sign == "f" and not isinstance(part, ChainMap) for sign, part in found]):
        raise Refused("kind")
    return [part for _, part in found]


def made(word, parts):
    """Return the complex or the chain map that a line makes."""
    if word == "let":
        found = parts[0]
    elif word == "map":
        found = ChainMap(parts[0], parts[1], parts[2])
    elif word in ("plus", "minus", "then"):
        found = made_of_maps(word, parts[0], parts[1])
    elif word in ("moved", "dual", "cone"):
        found = made_of_one(word, parts)
    else:
        found = made_of_two(word, parts[0], parts[1])
    check_digits(found.boundaries if isinstance(found, Complex) else found.matrices)
    return found


def made_of_maps(word, f, g):
    """Return the chain map that is made of two."""
    if word == "plus":
        return f + g
    return f - g if word == "minus" else f.then(g)


def made_of_one(word, parts):
    """Return the complex that is made of a complex or of a chain map."""
    if word == "moved":
        return moved_by(parts[0], parts[1])
    return dual(parts[0]) if word == "dual" else cone(parts[0])


def made_of_two(word, a, b):
    """Return the complex that is made of two."""
    if word == "sum":
        return sum_of_complexes(a, b)
    return tensor_complex(a, b) if word == "product" else matrix_complex(a, b)


def check_digits(matrices):
    """Refuse matrices that have an item of more than 20 digits."""
    if any([abs(item) >= 10 ** 20 for rows in matrices for row in rows for item in row]):
        raise Refused("digits")


def shown(found):
    """Return the reply that shows a complex or a chain map."""
    if isinstance(found, Complex):
        return Reply("complex", str(found))
    return Reply("map", matrices_text(found.matrices))


def told(word, parts):
    """Return the reply to a line that makes nothing and comes without a paper."""
    thing = parts[0]
    if word == "show":
        return shown(thing)
    if word == "homology":
        return Reply("group", invariants_text(homology(thing, parts[1])))
    if word == "modulo":
        return Reply("group", invariants_text(homology_modulo(thing, parts[1], parts[2])))
    if word == "induced":
        h = thing.induced(parts[1])
        return Reply("matrix", matrix_text([h.target.normal(row) for row in h.matrix]))
    if word == "pieces":
        return Reply("pieces", " ".join([f"{n}:{s}" for n, s in pieces(thing)]))
    return Reply("number", str(thing.euler()))


def invariants_text(group):
    """Return the text of the invariants of a group."""
    sizes, rank = group.invariants()
    return " ".join([str(size) for size in sizes]) + f"; {rank}"


def paper_of(word, parts):
    """Return the paper that a line asks for."""
    if word == "filling":
        return filling_paper(parts[0], parts[1], parts[2])
    if word == "homotopic":
        return homotopy_paper(parts[0], parts[1])
    return equivalence_paper(parts[0], parts[1])


def verdict(paper):
    """Return the word that belongs to a paper."""
    return "yes" if paper[0] in YES else "no"


def is_right(names, entry):
    """Tell whether a value is a right entry over definitions."""
    if not isinstance(entry, tuple) or len(entry) != 2 or not isinstance(entry[1], Reply):
        return False
    line, reply = entry
    judged = judged_parts(names, line)
    if judged is None:
        return reply_to(names, line) == reply
    word, parts = judged
    return reply.kind == word and takes(word, parts, reply.data) and reply.text == verdict(reply.data)


def judged_parts(names, line):
    """Return the first token and the parts of a line whose reply has a paper, None for every other value."""
    try:
        command = read_line(line)
        if command[0] not in JUDGED:
            return None
        parts = looked_up(names, command)
        check_judged(command[0], parts)
        return command[0], parts
    except Fault:
        return None


def check_judged(word, parts):
    """Raise what making the paper would raise, without making it."""
    if word == "filling":
        check_cycle(parts[0], parts[1], parts[2])
    elif word == "homotopic":
        check_parallel(parts[0], parts[1])


def takes(word, parts, paper):
    """Tell whether the checker accepts a paper for what a line names."""
    if word == "filling":
        return takes_filling(parts[0], parts[1], parts[2], paper)
    if word == "homotopic":
        return takes_homotopic(parts[0], parts[1], paper)
    return takes_equivalent(parts[0], parts[1], paper)
