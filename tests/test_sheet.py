"""Lines and the texts of matrices (points 12.1 and 12.2)."""

from tests.helper import GREAT, ODD, Case, random_rows, seeded, some_complexes
from cyclebounds.complexes import Complex, read_complex
from cyclebounds.errors import Fault, NoText
from cyclebounds.sheet import matrices_text, read_line, read_matrices

SIGNS = "".join(chr(number) for number in range(32, 127))

LINES = (
    ("let c = 0: 1 1; 2", ("let", "c", Complex(0, (1, 1), (((2,),),)))),
    ("let c = 0:", ("let", "c", Complex(0, (), ()))),
    ("let let = -20: 0 0 2; -; .", None),
    ("let x = -20: 0 0 2; -; ., .", ("let", "x", Complex(-20, (0, 0, 2), ((), ((), ()))))),
    ("  let   abcdefgh  =   3: 1   ", ("let", "abcdefgh", Complex(3, (1,), ()))),
    ("map f c d = 2; 3", ("map", "f", "c", "d", (((2,),), ((3,),)))),
    ("map f c d = 2 -3, 1 0; -; ., .", ("map", "f", "c", "d", (((2, -3), (1, 0)), (), ((), ())))),
    ("map f c d = 1, 2 3", ("map", "f", "c", "d", (((1,), (2, 3)),))),
    ("map f c d =", ("map", "f", "c", "d", ())),
    ("map f c d =   ", ("map", "f", "c", "d", ())),
    ("map map map map = -", ("map", "map", "map", "map", ((),))),
    ("sum e c d", ("sum", "e", "c", "d")),
    ("product e c c", ("product", "e", "c", "c")),
    ("matrices c c c", ("matrices", "c", "c", "c")),
    ("moved e c 3", ("moved", "e", "c", 3)),
    ("moved e c -99", ("moved", "e", "c", -99)),
    ("moved e c 99", ("moved", "e", "c", 99)),
    ("dual e c", ("dual", "e", "c")),
    ("cone e f", ("cone", "e", "f")),
    ("plus h f g", ("plus", "h", "f", "g")),
    ("minus h f g", ("minus", "h", "f", "g")),
    ("then h f g", ("then", "h", "f", "g")),
    ("show c", ("show", "c")),
    ("homology c 0", ("homology", "c", 0)),
    ("homology c -7", ("homology", "c", -7)),
    ("modulo c 0 -99", ("modulo", "c", 0, -99)),
    ("modulo c 99 99", ("modulo", "c", 99, 99)),
    ("induced f 1", ("induced", "f", 1)),
    ("pieces c", ("pieces", "c")),
    ("euler c", ("euler", "c")),
    ("filling c 1 1,-2,30", ("filling", "c", 1, (1, -2, 30))),
    ("filling c 1 -", ("filling", "c", 1, ())),
    ("filling c -1 0", ("filling", "c", -1, (0,))),
    (f"filling c -1 {GREAT},-{GREAT}", ("filling", "c", -1, (GREAT, -GREAT))),
    ("homotopic f g", ("homotopic", "f", "g")),
    ("equivalent c d", ("equivalent", "c", "d")),
    ("   show     c   ", ("show", "c")),
    ("", ("empty",)),
    (" ", ("empty",)),
    (" " * 2000, ("empty",)),
    ("#", ("empty",)),
    ("# let c = 0: 1", ("empty",)),
    ("#let", ("empty",)),
    ("#" + SIGNS, ("empty",)),
    ("# " + "x" * 1998, ("empty",)),
)

NO_LINES = (
    "lets", "let", "let c", "let c =", "let c = ", "let c 0: 1", "let c=0: 1", "let c =0: 1", "let c= 0: 1", "letc = 0: 1",
    "let c == 0: 1", "let c = = 0: 1", "let c = 0: 1 1", "let c = 0 : 1", "let c = 0:1", "let c = 0: 13", "let c = 21: 1",
    "let c = 0: 1 1;2", "let c = 0: 1 1;  2", "let c = 0:  1", "let c = 0: 1 1 1; 1; 1", "let c = 00: 1", "let c = 0: 01",
    "let c d = 0: 1", "let C = 0: 1", "let c1 = 0: 1", "let abcdefghi = 0: 1", "let = 0: 1", "let = = 0: 1", "let c\t= 0: 1",
    "Let c = 0: 1", "LET c = 0: 1", "let c = # 0: 1", "let c = 0: 1 #", " # a comment", "x#", "show c #", "a",
    "map", "map f", "map f c", "map f c d", "map f c d 2", "map f c = 2", "map f c d e = 2", "map f c d =2", "map f c d= 2",
    "map f c d = 2;3", "map f c d = 2 ; 3", "map f c d = 2,3", "map f c d = 2;", "map f c d = ; 2", "map f c d = 02",
    "map f c d = -0", "map f c d = a", "map f c d = +2", "map f c d = 2; ", "map f c d = = 2", "map F c d = 2",
    "map f c1 d = 2", "map f c abcdefghi = 2", "map f c d = 2,  3", "map f c d = 1  2", "map f c d = - -",
    "sum e c", "sum e c d f", "sum e c 1", "sum 1 c d", "sum", "sum e, c, d", "product e", "product e c d d", "matrices e c",
    "matrices e c d d", "moved e c", "moved e c 100", "moved e c -100", "moved e c 3 4", "moved e c +3", "moved e c 03",
    "moved e c -0", "moved e c a", "moved e c 1.0", "moved e c -", "moved 3 c e", "dual e", "dual e c c", "dual", "cone e",
    "cone e f f", "plus h f", "plus h f g g", "minus h", "minus h f g g", "then", "then h f", "then h f g g", "show",
    "show c c", "show 1", "show abcdefghi", "show C", "shows c", "homology c", "homology c 1 1", "homology c 100",
    "homology c -100", "homology 0 c", "homology c x", "homology c 1-", "homology c --1", "modulo c 2", "modulo c 2 1 0",
    "modulo c -1 0", "modulo c 100 0", "modulo c 2 100", "modulo c 2 -100", "modulo c 02 0", "modulo c x 0", "modulo c -0 0",
    "induced f", "induced f 1 1", "induced f 100", "pieces", "pieces c c", "pieces 1", "euler", "euler c c", "filling c 1",
    "filling c 1 1 2", "filling c 1 1, 2", "filling c 1 1,", "filling c 1 ,1", "filling c 1 1,,2", "filling c 1 a",
    "filling c 1 01", "filling c 1 -0", "filling c 1 --", "filling c 1 -,1", "filling c 1 +1", "filling c 100 1",
    "filling c 1 (1)", "homotopic f", "homotopic f g h", "homotopic", "homotopic f 1", "equivalent c", "equivalent c d e",
    "equivalent", "empty", "done", "error", "# \t", "#\n", "\n", "\t", "show\tc", "show c\n", "show c\r", "show \u00e9",
    "let c = x0: 1", "let c = 0: 1x", "let c = 0: 1 1; 2 x", "map f c d = x2", "map f c d = 2x",
    "show c\u00a0", "#\u00e9", "#\x7f", "#\x1f", "#\x00", "\u00b2", "homology c \u0663", "filling c 1 \u0661",
)


class Lines(Case):
    def test_commands(self):
        for line, expected in LINES:
            if expected is None:
                self.no_text(read_line, line)
                continue
            found = read_line(line)
            self.assertIs(type(found), tuple)
            self.assertEqual(found, expected, line)
            self.assertEqual([type(part) for part in found], [type(part) for part in expected], line)

    def test_no_lines(self):
        for line in NO_LINES:
            self.no_text(read_line, line)

    def test_every_value(self):
        for value in ODD:
            if value not in ("", "let c = 0: 1"):
                self.no_text(read_line, value)

    def test_lines_of_2000_characters(self):
        for line in ("show c", "# x", "let c = 0: 1 1; 2", "filling c 0 " + ",".join(["10"] * 662), ""):
            for long in (line.ljust(2000), " " * (2000 - len(line)) + line):
                if line != "# x" or long[0] == "#":
                    self.assertEqual(read_line(long), read_line(line))
            self.no_text(read_line, line.ljust(2001))
            self.no_text(read_line, " " * (2001 - len(line)) + line)
        self.no_text(read_line, "#" * 2001)
        self.assertEqual(read_line("#" * 2000), ("empty",))
        items = "filling c 0 " + "1" * 1988
        self.assertEqual(read_line(items)[3], (int("1" * 1988),))
        self.no_text(read_line, items + "1")

    def test_names(self):
        for name in ("a", "z", "abcdefgh", "zzzzzzzz", "let", "empty", "map"):
            self.assertEqual(read_line(f"show {name}"), ("show", name))
            self.assertEqual(read_line(f"let {name} = 0:")[1], name)
            self.assertEqual(read_line(f"sum {name} {name} {name}"), ("sum", name, name, name))
        for name in ("abcdefghi", "A", "aB", "a1", "a_b", "a-b", "=", "1", "-", "a.", "`", "{"):
            for line in (f"show {name}", f"let {name} = 0:", f"sum {name} c c", f"sum c {name} c", f"sum c c {name}",
                         f"map {name} c c =", f"map f {name} c =", f"map f c {name} =", f"cone {name} f", f"cone c {name}",
                         f"homotopic f {name}", f"homotopic {name} f", f"filling {name} 0 1"):
                self.no_text(read_line, line)

    def test_numbers(self):
        for number in range(-120, 121):
            for line, inside in ((f"homology c {number}", -99 <= number <= 99), (f"modulo c {number} 0", 0 <= number <= 99),
                                 (f"modulo c 2 {number}", -99 <= number <= 99), (f"moved d c {number}", -99 <= number <= 99),
                                 (f"filling c {number} 1", -99 <= number <= 99), (f"induced f {number}", -99 <= number <= 99)):
                if inside:
                    self.assertIn(number, read_line(line))
                else:
                    self.no_text(read_line, line)

    def test_spaces(self):
        for line, expected in LINES:
            if expected is None or "=" in line or line.startswith("#"):
                continue
            self.assertEqual(read_line("  " + line.replace(" ", "   ")[:1990] + " "), expected)

    def test_texts_of_complexes(self):
        for c, _ in some_complexes(seeded(220), 60):
            text = str(c)
            self.assertEqual(read_line(f"let c = {text}"), ("let", "c", c))
            self.assertEqual(read_line(f"let c = {text}   "), ("let", "c", c))

    def test_lines_changed_at_one_place(self):
        """Whatever stands at one place: a command with the right parts, or NoText(0)."""
        chance = seeded(221)
        for line, _ in LINES[:-2]:
            for _ in range(30):
                at = chance.randrange(len(line) + 1)
                other = line[:at] + chance.choice(SIGNS + "\n\u00e9") + line[at + chance.randint(0, 1):]
                try:
                    found = read_line(other)
                except Fault as fault:
                    self.assertEqual((type(fault), fault.at), (NoText, 0))
                    continue
                self.assertIs(type(found), tuple)
                self.assertTrue(found == ("empty",) or found[0] in other.split())


class Matrices(Case):
    def test_by_hand(self):
        for matrices, text in (
                ((), ""), (((),), "-"), (((), ()), "-; -"), ((((),),), "."), ((((), ()),), "., ."), ((((1,),),), "1"),
                ((((1, -2), (0, 3)),), "1 -2, 0 3"), ((((2,),), (), ((3,), (4,))), "2; -; 3, 4"),
                ((((1,), (2, 3), ()),), "1, 2 3, ."), (((), ((),), ((-7,),)), "-; .; -7"), ((((GREAT,),),), str(GREAT))):
            self.assertEqual(matrices_text(matrices), text)
            found = read_matrices(text)
            self.assertEqual(found, matrices)
            self.assertTrue(type(found) is tuple and all(type(rows) is tuple for rows in found))
            self.assertTrue(all(type(row) is tuple for rows in found for row in rows))

    def test_there_and_back(self):
        chance = seeded(222)
        for _ in range(200):
            matrices = tuple(random_rows(chance, chance.randint(0, 3), chance.randint(0, 3), 20)
                             for _ in range(chance.randint(0, 4)))
            self.assertEqual(read_matrices(matrices_text(matrices)), matrices)

    def test_no_matrices(self):
        for text in (" ", "1 ", " 1", "1;2", "1 ;2", "1; ", ";", "; ", "1;  2", "1,2", "1 ,2", "1,  2", "1, ", ",", ", ", "--", "-1-",
                     "01", "-0", "+1", "a", "1.", "..", "- -", "-, 1", "1, -", ". .", ".1", "1 .", "\u00b2", "\u0661", "1\n", "1\t2",
                     "1\u00a02", "1;\n2", "0x1", "1_0", "1e3", "None"):
            self.no_text(read_matrices, text)
        for value in ODD:
            if value not in ("", "12"):
                self.no_text(read_matrices, value)
        self.assertEqual(read_matrices("12"), (((12,),),))

    def test_2000_characters(self):
        text = "1 " * 999 + "12"
        self.assertEqual(len(text), 2000)
        self.assertEqual(read_matrices(text), (((1,) * 999 + (12,),),))
        self.no_text(read_matrices, text + "3")
        self.assertEqual(read_matrices("9" * 2000), (((10 ** 2000 - 1,),),))
        self.no_text(read_matrices, "9" * 2001)

    def test_as_in_complexes(self):
        for c, _ in some_complexes(seeded(223), 40):
            if len(c.ranks) > 1:
                self.assertTrue(str(c).endswith("; " + matrices_text(c.boundaries)))
                self.assertEqual(read_complex(str(c)).boundaries, read_matrices(matrices_text(c.boundaries)))
