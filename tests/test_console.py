"""Consoles (point 12.4), and what holds over the whole program."""

from tests.helper import Case, Pieced, random_pieces, random_rows, seeded, snapshot
from tests.test_log import SESSION
from tests.test_replies import ERRORS, NAMES, REPLIES
from tests.test_sheet import LINES, NO_LINES
from cyclebounds.chain import ChainMap
from cyclebounds.complexes import Complex
from cyclebounds.console import Console
from cyclebounds.log import first_wrong, read_log, write_log
from cyclebounds.replies import Reply, defined, reply_to
from cyclebounds.sheet import matrices_text

TWO = Complex(0, (1, 1), (((2,),),))


class Consoles(Case):
    def test_a_session(self):
        console = Console()
        names, entries = {}, []
        for line in SESSION:
            expected, found = reply_to(names, line), defined(names, line)
            reply = console.enter(line)
            self.assertIsInstance(reply, Reply)
            self.assertEqual(reply, expected)
            entries.append((line, expected))
            if found is not None:
                names[found[0]] = found[1]
            self.assertEqual(list(console), entries)
            self.assertEqual(len(console), len(entries))
            self.assertEqual(console.names(), names)
            self.assertEqual(console.log(), write_log(entries))
        self.assertEqual(read_log(console.log()), entries)
        self.assertEqual(first_wrong(list(console)), -1)

    def test_a_new_console(self):
        console = Console()
        self.assertEqual((len(console), list(console), console.names(), console.log()), (0, [], {}, ""))
        console.enter("let c = 0: 1")
        self.assertEqual((len(Console()), Console().names()), (0, {}))

    def test_entries(self):
        console = Console()
        first = console.enter("let c = 0: 1 1; 2")
        second = console.enter("what")
        found = [entry for entry in console]
        self.assertEqual(found, [("let c = 0: 1 1; 2", first), ("what", second)])
        self.assertTrue(all(type(entry) is tuple and len(entry) == 2 for entry in found))
        self.assertEqual(tuple(console), tuple(found))
        self.assertEqual(list(console), list(console))

    def test_errors_are_entries_and_define_nothing(self):
        console = Console()
        console.enter("let c = 0: 1 1; 2")
        for line, text in (("let c = 0: 1 1", "text"), ("moved c c 30", "refused large"), ("sum c c x", "refused name"),
                           ("map c c c = 1", "malformed"), ("map c c c = 1; 2", "refused commute"), ("plus c c c", "refused kind"),
                           ("let c = 0: 1 1; 1" + "0" * 20, "refused digits"), ("LET c = 0: 1", "text"), ("let c = 0: 1\t", "text")):
            before = len(console)
            self.assertEqual(console.enter(line), Reply("error", text))
            self.assertEqual(len(console), before + 1)
            self.assertEqual(list(console)[-1], (line, Reply("error", text)))
            self.assertEqual(console.names(), {"c": TWO})

    def test_definitions_replace_earlier_ones(self):
        console = Console()
        console.enter("let c = 0: 1 1; 2")
        console.enter("map f c c = 3; 3")
        console.enter("dual c c")
        self.assertEqual(console.names()["c"], Complex(-1, (1, 1), (((2,),),)))
        # What was made of the earlier one stays.
        self.assertEqual(console.names()["f"].source, TWO)
        self.assertEqual(console.enter("show f"), Reply("map", "3; 3"))
        self.assertEqual(console.enter("map g c c = 1; 1"), Reply("map", "1; 1"))
        self.assertEqual(console.enter("plus h f g"), Reply("error", "malformed"))
        console.enter("map c c c = 5; 5")
        self.assertIsInstance(console.names()["c"], ChainMap)
        self.assertEqual(console.enter("homology c 0"), Reply("error", "refused kind"))
        self.assertEqual(sorted(console.names()), ["c", "f", "g"])

    def test_all_lines_of_the_table(self):
        console = Console()
        for name, thing in NAMES.items():
            if isinstance(thing, Complex) and name != "great":
                self.assertEqual(console.enter(f"let {name} = {thing}"), Reply("complex", str(thing)))
        for name, ends in (("f", "c c"), ("g", "c c"), ("h", "l p")):
            self.assertEqual(console.enter(f"map {name} {ends} = {matrices_text(NAMES[name].matrices)}").kind, "map")
        known = {name: thing for name, thing in NAMES.items() if name != "great"}
        self.assertEqual(console.names(), known)
        for line in [line for line, *_ in REPLIES + ERRORS]:
            other = Console()
            for earlier, _ in console:
                other.enter(earlier)
            self.assertEqual(other.enter(line), reply_to(known, line))
            found = defined(known, line)
            self.assertEqual(other.names(), known if found is None else {**known, found[0]: found[1]})

    def test_names_are_new_each_time(self):
        console = Console()
        console.enter("let c = 0: 1")
        one, two = console.names(), console.names()
        self.assertEqual(one, two)
        self.assertIsNot(one, two)
        one.clear()
        two["d"] = TWO
        self.assertEqual(console.names(), {"c": Complex(0, (1,), ())})
        self.assertEqual(console.enter("show d"), Reply("error", "refused name"))

    def test_iterating_hands_out_no_list(self):
        console = Console()
        console.enter("")
        found = list(console)
        found.append(1)
        self.assertEqual(len(console), 1)
        self.assertEqual(list(console), [("", Reply("done"))])


class Most(Case):
    def test_300_lines(self):
        console = Console()
        for at in range(300):
            self.assertEqual(console.enter("" if at % 2 else "what").kind, "done" if at % 2 else "error")
        before = snapshot((list(console), console.names(), console.log()))
        for line in ("", "let c = 0: 1", "what"):
            self.refused("lines", console.enter, line)
            self.assertEqual(snapshot((list(console), console.names(), console.log())), before)
        self.assertEqual(len(console), 300)

    def test_chosen_numbers(self):
        for most in (0, 1, 2, 5, 301, 400):
            console = Console(most=most)
            for at in range(most):
                console.enter(f"let c = {at % 20}: 1")
            self.assertEqual(len(console), most)
            self.refused("lines", console.enter, "let c = -1: 1")
            self.assertEqual(len(console), most)
            self.assertEqual(console.names(), {"c": Complex((most - 1) % 20, (1,), ())} if most else {})

    def test_by_keyword_alone(self):
        with self.assertRaises(TypeError):
            Console(5)


class WholeProgram(Case):
    def test_every_line(self):
        console = Console(most=2000)
        for line in [line for line, _ in LINES] + list(NO_LINES) + ["x" * 2001, " " * 2001]:
            if "\n" not in line:
                console.enter(line)
        self.assertEqual(first_wrong(list(console)), -1)
        self.assertEqual(read_log(console.log()), list(console))

    def test_random_sessions(self):
        """Sessions of random lines: each log is read back, and all of its entries are right."""
        chance = seeded(250)
        for _ in range(12):
            console = Console()
            for _ in range(60):
                console.enter(random_line(chance))
            self.assertEqual(first_wrong(list(console)), -1)
            self.assertEqual(read_log(console.log()), list(console))
            self.assertGreater(len([reply for _, reply in console if reply.kind != "error"]), 10)

    def test_great_complexes(self):
        chance = seeded(251)
        found = random_pieces(chance, -4, 6, 200, (0, 1, 2, 6), 9)
        one, two = [Pieced(chance, -4, 6, found, 25).complex for _ in range(2)]
        lines = [f"let a = {one}", f"let b = {two}", "equivalent a b", "moved d a 1", "equivalent a d"]
        self.assertLess(max(len(line) for line in lines), 2000)
        rows = random_rows(chance, 9, 9, 10 ** 20)
        lines += ["let g = 0: 9 9; " + ", ".join(" ".join(str(item) for item in row) for row in rows), "equivalent g g",
                  "equivalent g a", "homology g 0", "modulo g 99 0", "pieces g", "map i g g = " + "; ".join(
                      [", ".join(" ".join(str(int(i == j)) for j in range(9)) for i in range(9))] * 2), "minus z i i",
                  "homotopic i z", "filling g 0 " + ",".join(str(item) for item in rows[0]), "filling g 0 1,2,3,4,5,6,7,8,9"]
        console = Console()
        kinds = [console.enter(line).kind for line in lines]
        self.assertNotIn("error", kinds)
        self.assertEqual(first_wrong(list(console)), -1)
        self.assertEqual(read_log(console.log()), list(console))


def random_line(chance):
    """A line over the names a, b for complexes and f, g for chain maps, often one that raises nothing."""
    name, other, f, g = chance.choice("ab"), chance.choice("ab"), chance.choice("fg"), chance.choice("fg")
    n, k = chance.randint(-1, 3), chance.randint(-4, 4)
    return chance.choice((
        f"let {name} = 0: 1 1; {k}", f"let {name} = 0: 2 1; {2 * k} {k}", f"let {name} = {k}: 1", f"map {f} a a = {k}; {k}",
        f"map {f} a b = {k}; {k}", f"map {f} a b = {k}", f"sum {name} a b", f"product {name} a b", f"matrices {name} a {other}",
        f"moved {name} {other} {k}", f"dual {name} {other}", f"cone {name} {f}", f"plus {f} f g", f"minus {f} f {g}", f"then {f} f {g}",
        f"show {name}", f"show {f}", f"homology {name} {n}", f"modulo {name} {k} {n}", f"induced {f} {n}", f"pieces {name}",
        f"euler {name}", f"filling {name} {n} {k}", f"filling {name} {n} {k},{n}", f"filling {name} 5 -", f"homotopic {f} {g}",
        f"homotopic {f} {f}", f"equivalent {name} {other}", f"equivalent {name} {name}", "", "# x", "what"))
