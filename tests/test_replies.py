"""Replies, what lines define, and right entries (points 12.2, 12.3 and 12.5)."""

from tests.helper import (
    GREAT, ODD, Case, Pieced, bounding_matrices, chain_matrices, changes, deep, put, random_pieces, random_rows, seeded,
    snapshot, some_complexes)
from tests.test_sheet import LINES, NO_LINES
from cyclebounds.chain import ChainMap, identity_chain, zero_chain
from cyclebounds.checker import takes_equivalent, takes_filling, takes_homotopic
from cyclebounds.coefficients import homology_modulo
from cyclebounds.complexes import Complex, dual, moved_by, sum_of_complexes
from cyclebounds.cone import cone
from cyclebounds.errors import Fault, Refused
from cyclebounds.homology import homology
from cyclebounds.papers import equivalence_paper, filling_paper, homotopy_paper
from cyclebounds.products import matrix_complex, tensor_complex
from cyclebounds.replies import Reply, defined, is_right, reply_to
from cyclebounds.rows import unit_matrix
from cyclebounds.sheet import matrices_text, read_line

TWO = Complex(0, (1, 1), (((2,),),))
PLANE = Complex(0, (2, 1), (((2, 4),),))
LINE = Complex(0, (1,), ())
NOTHING = Complex(3, (), ())
F = ChainMap(TWO, TWO, (((2,),), ((2,),)))
G = identity_chain(TWO)
H = ChainMap(LINE, PLANE, (((1, 2),),))
NAMES = {"c": TWO, "p": PLANE, "l": LINE, "e": NOTHING, "f": F, "g": G, "h": H, "wide": Complex(0, (7,), ()),
         "high": Complex(20, (1,), ()), "great": Complex(0, (1, 1), (((10 ** 20,),),)),
         "nine": Complex(0, (1, 1), (((10 ** 19,),),))}

# The reply to each line over NAMES: its kind and its text, and () as its data.
REPLIES = (
    ("let x = 0: 1 1; 2", "complex", "0: 1 1; 2"),
    ("let x =   -3: 2 1; 0 -1   ", "complex", "-3: 2 1; 0 -1"),
    ("let x = 5:", "complex", "5:"),
    ("let c = 0: 1", "complex", "0: 1"),
    ("map x c c = 3; 3", "map", "3; 3"),
    ("map x l p = 1 2", "map", "1 2"),
    ("map x e c =", "map", ""),
    ("map x c e = .; .", "map", ".; ."),
    ("sum x c p", "complex", "0: 3 2; 2 0 0, 0 2 4"),
    ("sum x e c", "complex", "0: 1 1; 2"),
    ("product x c c", "complex", "0: 1 2 1; 2, 2; 2 -2"),
    ("product x e c", "complex", "3:"),
    ("matrices x c c", "complex", "-1: 1 2 1; -2, 2; 2 2"),
    ("matrices x e c", "complex", "0:"),
    ("moved x c 1", "complex", "1: 1 1; -2"),
    ("moved x c -20", "complex", "-20: 1 1; 2"),
    ("dual x p", "complex", "-1: 1 2; 2, 4"),
    ("cone x f", "complex", "0: 1 2 1; 2, 2; -2 2"),
    ("plus x f g", "map", "3; 3"),
    ("minus x f g", "map", "1; 1"),
    ("then x f f", "map", "4; 4"),
    ("then x h h", "error", "malformed"),
    ("show c", "complex", "0: 1 1; 2"),
    ("show e", "complex", "3:"),
    ("show f", "map", "2; 2"),
    ("show h", "map", "1 2"),
    ("homology c 0", "group", "2; 0"),
    ("homology c 1", "group", "; 0"),
    ("homology p 0", "group", "2; 1"),
    ("homology l 0", "group", "; 1"),
    ("homology e -99", "group", "; 0"),
    ("homology great 0", "group", "1" + "0" * 20 + "; 0"),
    ("modulo c 2 0", "group", "2; 0"),
    ("modulo p 4 0", "group", "2 4; 0"),
    ("modulo p 4 1", "group", "2; 0"),
    ("modulo c 99 0", "group", "; 0"),
    ("modulo c 0 0", "error", "malformed"),
    ("modulo c 1 0", "error", "malformed"),
    ("induced f 0", "matrix", "0"),
    ("induced f 1", "matrix", "-"),
    ("induced g 0", "matrix", "1"),
    ("induced h 0", "matrix", "1 2"),
    ("induced h 7", "matrix", "-"),
    ("pieces c", "pieces", "0:2"),
    ("pieces p", "pieces", "0:2 0:0"),
    ("pieces e", "pieces", ""),
    ("pieces high", "pieces", "20:0"),
    ("euler c", "number", "0"),
    ("euler p", "number", "1"),
    ("euler wide", "number", "7"),
    ("", "done", ""),
    ("   ", "done", ""),
    ("# show c", "done", ""),
    ("#", "done", ""),
)

ERRORS = (
    # Names come first, whatever else is wrong, then kinds.
    ("show x", "refused name"), ("homology x 0", "refused name"), ("sum y x c", "refused name"), ("sum y c x", "refused name"),
    ("sum y f x", "refused name"), ("sum y x f", "refused name"), ("map y x c = 1", "refused name"),
    ("map y c x = 1", "refused name"), ("map y f x = 1", "refused name"), ("modulo x 0 0", "refused name"),
    ("filling x 0 1", "refused name"), ("homotopic f x", "refused name"), ("homotopic x f", "refused name"),
    ("homotopic c x", "refused name"), ("equivalent x c", "refused name"), ("equivalent f x", "refused name"),
    ("cone y x", "refused name"), ("dual y x", "refused name"), ("moved y x 1", "refused name"), ("plus y x f", "refused name"),
    ("minus y f x", "refused name"), ("then y c x", "refused name"), ("induced x 0", "refused name"),
    ("pieces x", "refused name"), ("euler x", "refused name"), ("product y x c", "refused name"),
    ("matrices y c x", "refused name"), ("sum c x x", "refused name"),
    ("homology f 0", "refused kind"), ("sum y f c", "refused kind"), ("sum y c f", "refused kind"),
    ("product y f f", "refused kind"), ("matrices y c f", "refused kind"), ("map y f c = 1", "refused kind"),
    ("map y c f = 1", "refused kind"), ("modulo f 0 0", "refused kind"), ("filling f 0 1", "refused kind"),
    ("homotopic f c", "refused kind"), ("homotopic c f", "refused kind"), ("equivalent c f", "refused kind"),
    ("equivalent f c", "refused kind"), ("cone y c", "refused kind"), ("dual y f", "refused kind"),
    ("moved y f 99", "refused kind"), ("plus y f c", "refused kind"), ("minus y c f", "refused kind"),
    ("then y f c", "refused kind"), ("induced c 0", "refused kind"), ("pieces f", "refused kind"), ("euler f", "refused kind"),
    # What the functions of the chapters raise.
    ("map y c c = 1", "malformed"), ("map y c c = 1; 1; 1", "malformed"), ("map y c c = 1 1; 1 1", "malformed"),
    ("map y c c =", "malformed"), ("map y p c = 1, 2, 3; 4", "malformed"), ("map y c c = 1; 2", "refused commute"),
    ("map y p c = 1, 2; 4", "refused commute"),
    ("map y c c = " + "1" * 21 + "; 1", "refused commute"), ("plus y f h", "malformed"), ("minus y h f", "malformed"),
    ("then y f h", "malformed"), ("then y h f", "malformed"), ("moved y c 20", None), ("moved y c 21", "refused large"),
    ("moved y c -21", "refused large"), ("moved y high 1", "refused large"), ("sum y wide wide", "refused large"),
    ("product y wide wide", "refused large"), ("matrices y wide wide", "refused large"), ("product y high high", "refused large"),
    ("filling c 0 1,1", "malformed"), ("filling c 1 1", "malformed"), ("filling c 0 -", "malformed"),
    ("filling c 5 0", "malformed"), ("homotopic f h", "malformed"), ("homotopic h g", "malformed"),
    # Digits come last.
    ("let y = 0: 1 1; " + "9" * 20, None), ("let y = 0: 1 1; -" + "9" * 20, None), ("let y = 0: 1 1; 1" + "0" * 20, "refused digits"),
    ("let y = 0: 1 1; -1" + "0" * 20, "refused digits"), ("map y l l = " + "9" * 20, None),
    ("map y l l = 1" + "0" * 20, "refused digits"), ("sum y great c", "refused digits"), ("dual y great", "refused digits"),
    ("moved y great 1", "refused digits"), ("moved y great 21", "refused large"), ("product y c great", "refused digits"),
    ("product y great wide", "refused digits"), ("matrices y great c", "refused digits"), ("sum y nine nine", None),
    ("product y nine nine", None), ("dual y nine", None), ("show great", None), ("homology great 0", None),
    ("pieces great", None), ("equivalent great great", None), ("filling great 0 1", None),
)


def known(names, line):
    """What a line makes over definitions, by the functions that the document names, None if it makes nothing."""
    word, *parts = read_line(line)
    calls = {"sum": sum_of_complexes, "product": tensor_complex, "matrices": matrix_complex, "moved": moved_by, "dual": dual,
             "cone": cone, "plus": lambda f, g: f + g, "minus": lambda f, g: f - g, "then": lambda f, g: f.then(g)}
    if word == "let":
        return parts[1]
    if word == "map":
        return ChainMap(names[parts[1]], names[parts[2]], parts[3])
    if word in calls:
        return calls[word](*[names[part] if type(part) is str else part for part in parts[1:]])
    return None


class Replies(Case):
    def test_fields(self):
        reply = Reply("kind", "text", (1,))
        self.assertEqual((reply.kind, reply.text, reply.data), ("kind", "text", (1,)))
        reply = Reply("kind")
        self.assertEqual((reply.kind, reply.text, reply.data), ("kind", "", ()))
        reply = Reply(kind="a", data=(2,))
        self.assertEqual((reply.kind, reply.text, reply.data), ("a", "", (2,)))

    def test_equal(self):
        one = Reply("kind", "text", (1, (2,)))
        self.assertIs(one == Reply("kind", "text", (1, (2,))), True)
        for other in (Reply("kinds", "text", (1, (2,))), Reply("kind", "texts", (1, (2,))), Reply("kind", "text", (1, 2)),
                      Reply("kind", "text", [1, (2,)]), Reply("kind")):
            self.assertIs(one == other, False)
            self.assertIs(one != other, True)
        for value in ODD + (("kind", "text", (1, (2,))), "kind"):
            self.assertIs(one == value, False)
            self.assertIs(Reply("kind", "", value) == Reply("kind", "", value), True)

    def test_by_hand(self):
        for line, kind, text in REPLIES:
            reply = reply_to(NAMES, line)
            self.assertIsInstance(reply, Reply)
            self.assertEqual((reply.kind, reply.text, reply.data), (kind, text, ()), line)

    def test_errors(self):
        for line, text in ERRORS:
            reply = reply_to(NAMES, line)
            if text is None:
                self.assertNotEqual(reply.kind, "error", line)
            else:
                self.assertEqual((reply.kind, reply.text, reply.data), ("error", text, ()), line)
                self.assertIsNone(defined(NAMES, line))

    def test_no_lines(self):
        for line in NO_LINES + ODD + ("#" * 2001,):
            if line in ("", "let c = 0: 1"):
                continue
            reply = reply_to(NAMES, line)
            self.assertEqual((reply.kind, reply.text, reply.data), ("error", "text", ()))
            self.assertIsNone(defined(NAMES, line))

    def test_without_definitions(self):
        for line, expected in LINES:
            reply = reply_to({}, line)
            if expected is None:
                self.assertEqual(reply, Reply("error", "text"))
            elif expected[0] == "let":
                self.assertEqual(reply, Reply("complex", str(expected[2])))
            elif expected[0] == "empty":
                self.assertEqual(reply, Reply("done"))
            else:
                self.assertEqual(reply, Reply("error", "refused name"))

    def test_names_stay(self):
        names = dict(NAMES)
        before = snapshot(names)
        for line in [line for line, *_ in REPLIES + ERRORS] + ["filling c 0 1", "homotopic f g", "equivalent c p"]:
            reply_to(names, line)
            defined(names, line)
            is_right(names, (line, Reply("done")))
        self.assertEqual(snapshot(names), before)

    def test_papers(self):
        for line, kind, text, takes, args in (
                ("filling c 0 4", "filling", "yes", takes_filling, (TWO, 0, (4,))),
                ("filling c 0 3", "filling", "no", takes_filling, (TWO, 0, (3,))),
                ("filling c 1 0", "filling", "yes", takes_filling, (TWO, 1, (0,))),
                ("filling e 1 -", "filling", "yes", takes_filling, (NOTHING, 1, ())),
                ("filling great 0 " + "3" * 1900, "filling", "no", takes_filling, (NAMES["great"], 0, (int("3" * 1900),))),
                ("homotopic f f", "homotopic", "yes", takes_homotopic, (F, F)),
                ("homotopic f g", "homotopic", "no", takes_homotopic, (F, G)),
                ("equivalent c c", "equivalent", "yes", takes_equivalent, (TWO, TWO)),
                ("equivalent c p", "equivalent", "no", takes_equivalent, (TWO, PLANE)),
                ("equivalent e e", "equivalent", "yes", takes_equivalent, (NOTHING, NOTHING))):
            reply = reply_to(NAMES, line)
            self.assertEqual((reply.kind, reply.text), (kind, text), line)
            self.assertIs(takes(*args, reply.data), True)
            self.assertEqual(text == "yes", reply.data[0] in ("filling", "homotopy", "equivalence"))
        self.assertEqual(reply_to(NAMES, "filling c 0 3").data, filling_paper(TWO, 0, (3,)))
        self.assertEqual(reply_to(NAMES, "homotopic f g").data, homotopy_paper(F, G))
        self.assertEqual(reply_to(NAMES, "equivalent c p").data, equivalence_paper(TWO, PLANE))

    def test_texts_of_groups_and_maps(self):
        chance = seeded(230)
        for c, found in some_complexes(chance, 40):
            names = {"a": c}
            for n in range(c.low - 1, c.low + len(c.ranks) + 1):
                for reply, group in ((reply_to(names, f"homology a {n}"), homology(c, n)),
                                     (reply_to(names, f"modulo a 12 {n}"), homology_modulo(c, 12, n))):
                    sizes, rank = group.invariants()
                    self.assertEqual(reply, Reply("group", " ".join(map(str, sizes)) + "; " + str(rank)))
            self.assertEqual(reply_to(names, "pieces a"), Reply("pieces", " ".join(f"{n}:{s}" for n, s in found)))
            self.assertEqual(reply_to(names, "euler a"), Reply("number", str(c.euler())))
            self.assertEqual(reply_to(names, "show a"), Reply("complex", str(c)))
            self.assertEqual(reply_to(names, "let b = " + str(c)), Reply("complex", str(c)))

    def test_induced_maps(self):
        chance = seeded(231)
        for _ in range(30):
            one = Pieced(chance, 0, 3, random_pieces(chance, 0, 3, 5, (0, 2, 4, 6), 3))
            two = Pieced(chance, 0, 3, random_pieces(chance, 0, 3, 5, (0, 2, 3, 4), 3))
            f = ChainMap(one.complex, two.complex, chain_matrices(chance, one, two))
            for n in range(-1, 4):
                h = f.induced(n)
                rows = tuple(h.value(row) for row in unit_matrix(h.source.n))
                self.assertEqual(reply_to({"f": f}, f"induced f {n}"), Reply("matrix", matrices_text((rows,))))


class Defined(Case):
    def test_defined(self):
        many = 0
        for line in [line for line, *_ in REPLIES + ERRORS]:
            reply, found = reply_to(NAMES, line), defined(NAMES, line)
            word = (line.split() or [""])[0]
            if reply.kind == "error" or word not in ("let", "map", "sum", "product", "matrices", "moved", "dual", "cone",
                                                     "plus", "minus", "then"):
                self.assertIsNone(found, line)
                continue
            many += 1
            self.assertIs(type(found), tuple)
            name, thing = found
            self.assertEqual(name, line.split()[1])
            self.assertEqual(thing, known(NAMES, line))
            text = str(thing) if isinstance(thing, Complex) else matrices_text(thing.matrices)
            self.assertEqual(reply, Reply("complex" if isinstance(thing, Complex) else "map", text))
        self.assertGreater(many, 25)

    def test_nothing(self):
        for line in NO_LINES + ("", "# let c = 0: 1", "show c", "filling c 0 1", "homotopic f g", "equivalent c c"):
            self.assertIsNone(defined(NAMES, line))

    def test_own_name(self):
        self.assertEqual(defined(NAMES, "moved c c 1"), ("c", moved_by(TWO, 1)))
        self.assertEqual(defined(NAMES, "cone f f"), ("f", cone(F)))


class Right(Case):
    def test_replies_are_right(self):
        lines = [line for line, *_ in REPLIES + ERRORS] + list(NO_LINES) + [line for line, _ in LINES]
        for line in lines + ["filling c 0 3", "filling c 0 4", "homotopic f g", "homotopic f f", "equivalent c p"]:
            self.assertIs(is_right(NAMES, (line, reply_to(NAMES, line))), True, line)
        for value in ODD:
            self.assertIs(is_right(NAMES, (value, reply_to(NAMES, value))), True)

    def test_other_replies_are_wrong(self):
        for line in [line for line, *_ in REPLIES + ERRORS][::3] + list(NO_LINES)[::5] + [None, 3, (), (1,)]:
            right = reply_to(NAMES, line)
            if right.kind in ("filling", "homotopic", "equivalent"):
                continue
            for other in (Reply(right.kind + "x", right.text), Reply(right.kind, right.text + " "), Reply(right.kind, right.text, (1,)),
                          Reply(right.kind, right.text, []), Reply(right.kind, right.text, None), Reply("yes", "yes"),
                          Reply(None), Reply(right.kind, None), Reply(right.kind, (right.text,)), Reply("filling", "yes", ())):
                self.assertIs(is_right(NAMES, (line, other)), False)

    def test_values_that_are_no_entries(self):
        right = reply_to(NAMES, "show c")
        for value in ODD + (["show c", right], ("show c",), ("show c", right, right), ("show c", right, ()), (right, "show c"),
                            ("show c", ("complex", "0: 1 1; 2", ())), (right, right), right, "show c", ((("show c", right),),)):
            if value == ("", Reply("done")):
                self.assertIs(is_right(NAMES, value), True)
            else:
                self.assertIs(is_right(NAMES, value), False)
        self.assertIs(is_right(NAMES, ("show c", right)), True)
        for line in ("show c", "filling c 0 3", "homotopic f g", "equivalent c c", "what", ""):
            for value in ODD:
                answer = is_right(NAMES, (line, value))
                self.assertIs(answer, (line, value) == ("", Reply("done")) or (line, value) == ("what", Reply("error", "text")))

    def test_other_papers(self):
        for line, data, text, expected in (
                ("filling c 0 4", ("filling", (2,)), "yes", True), ("filling c 0 4", ("filling", (2,)), "no", False),
                ("filling c 0 4", ("filling", (3,)), "yes", False), ("filling c 0 3", ("bar", (1,), 2), "no", True),
                ("filling c 0 3", ("bar", (-5,), 2), "no", True), ("filling c 0 3", ("bar", (2,), 4), "no", True),
                ("filling c 0 3", ("bar", (1,), 2), "yes", False), ("filling c 0 3", ("bar", (2,), 2), "no", False),
                ("filling c 0 3", ("bar", [1], 2), "no", False), ("filling c 0 3", ("bar", (True,), 2), "no", False),
                ("filling c 0 3", (), "no", False), ("filling c 0 3", None, "no", False), ("filling c 0 3", ("filling",), "yes", False),
                ("homotopic f f", ("homotopy", (((0,),), ((),))), "yes", True),
                ("homotopic f f", ("homotopy", (((1,),), ((),))), "yes", False),
                ("homotopic f g", ("bar", 1, 2, (1,), (1,)), "no", True),
                ("homotopic f g", ("bar", 1, 2, (3,), (-7,)), "no", True),
                ("homotopic f g", ("bar", 1, 2, (3,), (-7,)), "yes", False),
                ("equivalent c c", ("equivalence", (((1,),), ((1,),)), (((1,),), ((1,),)), (((0,),), ((),)), (((0,),), ((),))),
                 "yes", True),
                ("equivalent c c", ("equivalence", (((3,),), ((3,),)), (((1,),), ((1,),)), (((1,),), ((),)), (((1,),), ((),))),
                 "yes", True),
                ("equivalent c c", ("equivalence", (((3,),), ((3,),)), (((1,),), ((1,),)), (((1,),), ((),)), (((1,),), ((),))),
                 "no", False)):
            kind = line.split()[0]
            self.assertIs(is_right(NAMES, (line, Reply(kind, text, data))), expected, (line, data))
            for other in ("filling", "homotopic", "equivalent", "done", None, True):
                if other != kind:
                    self.assertIs(is_right(NAMES, (line, Reply(other, text, data))), False)
            for wrong in ("", "maybe", "Yes", None, True, ("yes",)):
                self.assertIs(is_right(NAMES, (line, Reply(kind, wrong, data))), False)

    def test_papers_changed_at_one_place(self):
        chance = seeded(232)
        for line, takes, args in (("filling c 0 4", takes_filling, (TWO, 0, (4,))), ("filling p 0 1,1", takes_filling, (PLANE, 0, (1, 1))),
                                  ("homotopic f g", takes_homotopic, (F, G)), ("homotopic g g", takes_homotopic, (G, G)),
                                  ("equivalent c c", takes_equivalent, (TWO, TWO)), ("equivalent c p", takes_equivalent, (TWO, PLANE))):
            right = reply_to(NAMES, line)
            for data in changes(chance, right.data, 150):
                self.assertIs(is_right(NAMES, (line, Reply(right.kind, right.text, data))), takes(*args, data))

    def test_errors_where_papers_are_asked_for(self):
        for line, text in ERRORS:
            word = line.split()[0]
            if word in ("filling", "homotopic", "equivalent") and text is not None:
                self.assertIs(is_right(NAMES, (line, Reply("error", text))), True)
                for other in (Reply(word, "no", ("bar", (1,), 2)), Reply(word, "yes", ("filling", (0,))), Reply("error", "text"),
                              Reply("error", text, ("bar",)), Reply(word)):
                    self.assertIs(is_right(NAMES, (line, other)), False)

    def test_any_reply(self):
        for line in ("filling c 0 3", "homotopic f g", "equivalent c c", "show c", "", None):
            for value in ODD + (deep(58),):
                for other in (Reply(value), Reply("filling", "no", value), Reply("filling", value, ("bar", (1,), 2)),
                              Reply(value, "no", ("bar", (1,), 2)), Reply("homotopic", "no", value)):
                    answer = is_right(NAMES, (line, other))
                    self.assertIsInstance(answer, bool)
                    self.assertFalse(answer and other.kind != "done")

    def test_papers_by_hand_for_great_complexes(self):
        """The paper is looked at, not made: also where items are great."""
        chance = seeded(233)
        found = random_pieces(chance, 0, 8, 200, (0, 1, 2, 4))
        one = Pieced(chance, 0, 8, found, 300)
        c = one.complex
        f = ChainMap(c, c, chain_matrices(chance, one, one, 10 ** 200))
        moves, around = bounding_matrices(chance, c, c, 10 ** 200)
        g = f + ChainMap(c, c, around)
        names = {"c": c, "f": f, "g": g}
        right = Reply("homotopic", "yes", ("homotopy", moves))
        self.assertIs(is_right(names, ("homotopic g f", right)), True)
        self.assertIs(is_right(names, ("homotopic f g", right)), False)
        wide = Complex(0, (12, 12), [random_rows(chance, 12, 12, 10 ** 300)])
        y = random_rows(chance, 1, 12, 10 ** 80)[0]
        double = Complex(0, (12, 12), [[tuple(2 * item for item in row) for row in wide.boundary(1)]])
        line = "filling d 0 " + ",".join(str(item) for item in y)
        t = tuple(int(at == 0) for at in range(12))
        self.assertIs(is_right({"d": double}, (line, Reply("filling", "no", ("bar", t, 2)))), y[0] % 2 == 1)


class Digits(Case):
    def test_each_place(self):
        for at in range(4):
            items = [1, 2, 3, 4]
            items[at] = -10 ** 20
            line = "map x wide wide = " + "; ".join(["{} {}, {} {}".format(*items)])
            names = {"wide": Complex(0, (2,), ())}
            self.assertEqual(reply_to(names, line), Reply("error", "refused digits"))
            items[at] = 1 - 10 ** 20
            line = "map x wide wide = " + "{} {}, {} {}".format(*items)
            self.assertEqual(reply_to(names, line).kind, "map")

    def test_sums_and_products(self):
        line = Complex(0, (1,), ())
        f = ChainMap(line, line, (((10 ** 20 - 1,),),))
        g = identity_chain(line)
        names = {"f": f, "g": g, "z": zero_chain(line, line)}
        for text, expected in (("plus x f g", "refused digits"), ("minus x z f", None), ("minus x f g", None), ("plus x f z", None),
                               ("then x f f", "refused digits"), ("then x f g", None)):
            reply = reply_to(names, text)
            self.assertEqual(reply.text if reply.kind == "error" else None, expected)
            self.assertEqual(defined(names, text) is None, expected is not None)

    def test_cones(self):
        wide = Complex(0, (1, 1), (((10 ** 20 - 1,),),))
        names = {"f": identity_chain(wide), "g": identity_chain(NAMES["great"])}
        self.assertEqual(reply_to(names, "cone x f").kind, "complex")
        self.assertEqual(reply_to(names, "cone x g"), Reply("error", "refused digits"))


class Kinds(Case):
    def test_reasons(self):
        """Each reason that a function of the chapters tells is the reason of the reply."""
        for line, call in (("sum y wide wide", lambda: sum_of_complexes(NAMES["wide"], NAMES["wide"])),
                           ("map y c c = 1; 2", lambda: ChainMap(TWO, TWO, (((1,),), ((2,),))))):
            try:
                call()
            except Refused as fault:
                self.assertEqual(reply_to(NAMES, line), Reply("error", "refused " + fault.reason))

    def test_great_numbers(self):
        names = {"c": Complex(0, (1, 1), (((GREAT,),),))}
        self.assertEqual(reply_to(names, "homology c 0"), Reply("group", f"{GREAT}; 0"))
        self.assertEqual(reply_to(names, "show c").text, f"0: 1 1; {GREAT}")
        self.assertEqual(put((1, (2,)), (1, 0), 3), (1, (3,)))
        self.assertTrue(issubclass(Refused, Fault))
