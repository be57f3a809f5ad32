"""Plain data, logs, and the first entry that is wrong (points 12.5 and 12.6)."""

from tests.helper import GREAT, ODD, Case, changes, deep, put, seeded
from tests.test_sheet import LINES, NO_LINES
from cyclebounds.console import Console
from cyclebounds.errors import Fault, NoText
from cyclebounds.log import first_wrong, read_data, read_log, write_data, write_log
from cyclebounds.replies import Reply, reply_to

SESSION = (
    "let c = 0: 1 1; 2", "let d = 0: 2 1; 2 4", "map f c c = 2; 2", "minus z f f", "homotopic f z", "homotopic z f",
    "# a comment", "", "homology c 0", "equivalent c d", "equivalent c c", "filling c 0 4", "filling c 0 3", "show x",
    "map f c d = 1 2; 1", "homotopic f f", "cone c z", "filling c 0 4,5", "moved d d 20", "homology d 20", "moved d d 1",
    "pieces c", "equivalent d d", "nothing", "\u00e9t\u00e9", "then f z z", "induced f 1", "modulo c 6 1", "euler c")


def nested(levels):
    value = ()
    for _ in range(levels - 1):
        value = (value,)
    return value


def is_plain(value, levels=20):
    if type(value) is tuple:
        return levels > 0 and all(is_plain(item, levels - 1) for item in value)
    if type(value) is str:
        return 1 <= len(value) <= 12 and all(letter in "abcdefghijklmnopqrstuvwxyz" for letter in value)
    return type(value) is int


def random_data(chance, levels):
    kind = chance.randrange(4 if levels else 2)
    if kind == 0:
        return chance.choice([0, -1, 7, GREAT, -GREAT, chance.randint(-99, 99)])
    if kind == 1:
        return "".join(chance.choice("abxyz") for _ in range(chance.randint(1, 12)))
    return tuple(random_data(chance, levels - 1) for _ in range(chance.randint(0, 3)))


def entries_of(lines):
    console = Console()
    for line in lines:
        console.enter(line)
    return list(console)


class Data(Case):
    def test_by_hand(self):
        for data, text in ((0, "0"), (-12, "-12"), ("a", "a"), ("abcdefghijkl", "abcdefghijkl"), ((), "()"), ((1,), "(1)"),
                           ((1, -2), "(1 -2)"), (((),), "(())"), (((), ()), "(() ())"), (("bar", (1, 2), 3), "(bar (1 2) 3)"),
                           (((1, (2, ())), "x", ((),)), "((1 (2 ())) x (()))"), (GREAT, str(GREAT))):
            self.assertEqual(write_data(data), text)
            found = read_data(text)
            self.assertEqual(found, data)
            self.assertIs(type(found), type(data))

    def test_there_and_back(self):
        chance = seeded(240)
        seen = set()
        for _ in range(400):
            data = random_data(chance, 4)
            text = write_data(data)
            self.assertEqual(read_data(text), data)
            seen.add(text)
        self.assertGreater(len(seen), 200)

    def test_20_deep_and_deeper(self):
        for levels in range(1, 21):
            self.assertEqual(write_data(nested(levels)), "(" * levels + ")" * levels)
            self.assertEqual(read_data("(" * levels + ")" * levels), nested(levels))
            self.assertEqual(read_data(write_data((1, nested(levels - 1) if levels > 1 else 2, "a"))),
                             (1, nested(levels - 1) if levels > 1 else 2, "a"))
        for levels in (21, 22, 40, 60):
            self.malformed(write_data, nested(levels))
            self.malformed(write_data, (1, nested(levels - 1)))
            self.no_text(read_data, "(" * levels + ")" * levels)
        self.assertEqual(write_data(put(nested(20), (0,) * 19, (5, "a"))), "(" * 20 + "5 a" + ")" * 20)
        self.no_text(read_data, "(" * 100000 + ")" * 100000)
        self.no_text(read_data, "(" * 100000)
        self.no_text(read_data, ")" * 100000)

    def test_labels(self):
        for label in ("a", "z", "abcdefghijkl", "zzzzzzzzzzzz"):
            self.assertEqual(read_data(write_data(label)), label)
        for label in ("", "abcdefghijklm", "A", "a1", "a b", "a-", "(", ")", "()", "1", "\u00e9", "a\n", "_", "a_b", "`", "{"):
            self.malformed(write_data, label)
            self.malformed(write_data, (label,))
            self.malformed(write_data, (1, ("a", label)))

    def test_malformed(self):
        for value in ODD + ([], {}, {"a": 1}, (1, [2]), (1, None), (True,), (1.5,), 1.5, b"a", (b"a",), deep(60)):
            if is_plain(value):
                self.assertEqual(read_data(write_data(value)), value)
            else:
                self.malformed(write_data, value)
                self.malformed(write_data, (1, value))

    def test_no_data(self):
        for text in ("", " ", "( )", "(1 )", "( 1)", "(1  2)", "(1", "1)", "(1))", "((1)", "1 2", "(1)(2)", "(1) (2)", "(1)2", "2(1)",
                     "(1(2))", "((1)2)", " 1", "1 ", "01", "-0", "+1", "--1", "-", "1-", "1.", "1,2", "(1,2)", "A", "aB", "a1", "1a", "a b",
                     "abcdefghijklm", "(abcdefghijklm)", "a-b", "\u00e9", "\u0661", "\u00b2", "1\n", "(1\n2)", "(1\t2)", "(1\u00a02)",
                     "\n", "()\n", "() ", " ()", ")(", ")", "(", "None", "True", "[1]", "'a'", "(1 2", "(a\u00ad)", "(-0)", "(007)"):
            self.no_text(read_data, text)
        for value in ODD:
            if type(value) is not str or value in ("", "2: 2 0", "let c = 0: 1", "\u00b2", "\ud800"):
                self.no_text(read_data, value)

    def test_texts_changed_at_one_place(self):
        chance = seeded(241)
        for _ in range(300):
            text = write_data(random_data(chance, 4))
            at = chance.randrange(len(text) + 1)
            other = text[:at] + chance.choice("() 1-0aA\n") + text[at + chance.randint(0, 1):]
            try:
                found = read_data(other)
            except Fault as fault:
                self.assertEqual((type(fault), fault.at), (NoText, 0))
                continue
            self.assertEqual(write_data(found), other)


class Logs(Case):
    def test_by_hand(self):
        entries = [("let c = 0: 1", Reply("complex", "0: 1")), ("", Reply("done")), ("x", Reply("error", "text")),
                   ("filling c 0 1", Reply("filling", "no", ("bar", (1,), 2)))]
        text = ("> let c = 0: 1\n= complex 0: 1\n# ()\n> \n= done \n# ()\n> x\n= error text\n# ()\n"
                "> filling c 0 1\n= filling no\n# (bar (1) 2)\n")
        self.assertEqual(write_log(entries), text)
        self.assertEqual(read_log(text), entries)
        self.assertIs(type(read_log(text)), list)
        self.assertEqual(write_log([]), "")
        self.assertEqual(read_log(""), [])

    def test_there_and_back(self):
        entries = entries_of(SESSION)
        text = write_log(entries)
        found = read_log(text)
        self.assertEqual(found, entries)
        for (line, reply), (other, again) in zip(entries, found):
            self.assertIs(type(other), str)
            self.assertEqual((line, reply.kind, reply.text, reply.data), (other, again.kind, again.text, again.data))
        self.assertEqual(write_log(found), text)
        self.assertEqual(text.count("\n"), 3 * len(SESSION))

    def test_any_lines_and_texts(self):
        for line in ("> ", "= a b", "#", "\r", "\u2028\x0b\x1c", "\ud800", " " * 5000, "\u00e9", "a\rb", "\x85"):
            for text in ("", " ", "> ", "\r", "\u2028", "a  b", "\x1d"):
                entries = [(line, Reply("abcdefghijkl", text, (1,)))] * 2
                self.assertEqual(read_log(write_log(entries)), entries)

    def test_malformed(self):
        right = ("show c", Reply("error", "refused name"))
        self.assertIn("refused name", write_log([right]))
        wrong = ODD + (
            ["show c", right[1]], ("show c",), ("show c", right[1], 1), ("show\nc", right[1]), ("\n", right[1]), (1, right[1]),
            (None, right[1]), (("show c",), right[1]), ("show c", "error"), ("show c", ("error", "", ())), right[1], right[0],
            ("x", Reply("")), ("x", Reply("abcdefghijklm")), ("x", Reply("Error")), ("x", Reply("a b")), ("x", Reply("a\n")),
            ("x", Reply(None)), ("x", Reply(1)), ("x", Reply(True)), ("x", Reply(("a",))), ("x", Reply("a", None)), ("x", Reply("a", 1)),
            ("x", Reply("a", "\n")), ("x", Reply("a", "b\n")), ("x", Reply("a", ("b",))), ("x", Reply("a", "", [])),
            ("x", Reply("a", "", "b")), ("x", Reply("a", "", 1)), ("x", Reply("a", "", None)), ("x", Reply("a", "", (True,))),
            ("x", Reply("a", "", ([1],))), ("x", Reply("a", "", (1.5,))), ("x", Reply("a", "", ("A",))), ("x", Reply("a", "", nested(21))))
        for item in wrong:
            if item == ("", Reply("done")):
                continue
            for entries in ([item], [right, item], [item, right], [right, item, right]):
                self.malformed(write_log, entries)
        self.assertEqual(read_log(write_log([("x", Reply("a", "", nested(20)))]))[0][1].data, nested(20))

    def test_no_strings(self):
        for value in ODD:
            if type(value) is str and value not in ("", "> a\n= done \n# ()\n"):
                self.no_text(read_log, value)
            elif type(value) is not str:
                self.no_text(read_log, value)

    def refused_at(self, text, at):
        with self.assertRaises(NoText, msg=repr(text)) as caught:
            read_log(text)
        self.assertEqual(caught.exception.at, at, repr(text))

    def test_spoilt_at_each_line(self):
        lines = write_log(entries_of(SESSION)).split("\n")[:-1]
        wrong = (("", ">", ">x", " > x", "= done ", "# ()"), ("", "=", "= ", "= done", "=done ", "= Done x", "= d1 ",
                 "= abcdefghijklm x", "=  x", "> x", "# ()", "= \u00e9 "), ("", "#", "# ", "#()", "#  ()", "# 1", "# a", "# (", "# ())",
                 "# (1  2)", "# () ", "# ()\r", "> x", "= done ", "# (True1)", "# " + "(" * 21 + ")" * 21))
        for at in range(0, len(lines), 4):
            for other in wrong[at % 3]:
                self.refused_at("\n".join(lines[:at] + [other] + lines[at + 1:]) + "\n", at)
                # The first one counts.
                self.refused_at("\n".join(lines[:at] + [other] + lines[at + 1:] + ["", "x"]), at)
                if other != "":
                    self.refused_at("\n".join(lines[:at] + [other]), at)

    def test_cut_off(self):
        text = write_log(entries_of(SESSION[:6]))
        for size in range(len(text) + 1):
            part = text[:size]
            if part == "" or part.endswith("\n") and part.count("\n") % 3 == 0:
                self.assertEqual(len(read_log(part)), part.count("\n") // 3)
            else:
                self.refused_at(part, part.count("\n"))

    def test_lines_left_out_or_twice(self):
        lines = write_log(entries_of(SESSION[:5])).split("\n")[:-1]
        for at in range(len(lines)):
            # What stands at the place now has the form of another place.
            self.refused_at("\n".join(lines[:at] + lines[at + 1:]) + "\n", at if at < len(lines) - 1 else len(lines) - 1)
            self.refused_at("\n".join(lines[:at] + [lines[at]] + lines[at:]) + "\n", at + 1)
        self.refused_at("\n" + "\n".join(lines) + "\n", 0)
        self.refused_at("\n".join(lines) + "\n\n", len(lines))
        self.refused_at("\n".join(lines) + "\nx", len(lines))
        self.refused_at("\n".join(lines) + "\n> x", len(lines))
        self.refused_at("\n".join(lines) + "\n> x\n", len(lines) + 1)
        self.refused_at("\n".join(lines) + "\n> x\n= a ", len(lines) + 1)
        self.refused_at("\n".join(lines) + "\n> x\n= a \n# ()", len(lines) + 2)
        self.refused_at("\n", 0)
        self.refused_at("\n\n", 0)
        self.refused_at(" ", 0)

    def test_changed_at_one_place(self):
        chance = seeded(242)
        text = write_log(entries_of(SESSION[:8]))
        for _ in range(400):
            at = chance.randrange(len(text) + 1)
            other = text[:at] + chance.choice("() 1-0aA\n>=#") + text[at + chance.randint(0, 1):]
            try:
                self.assertEqual(write_log(read_log(other)), other)
            except NoText as fault:
                self.assertEqual(fault.at, first_bad(other))


def first_bad(text):
    """The number that point 12.6 tells for a text that is no log, line by line."""
    lines = text.split("\n")
    for at, line in enumerate(lines[:-1]):
        if not has_form(line, at % 3):
            return at
    return text.count("\n")


def has_form(line, place):
    if line[:2] != ">=#"[place] + " ":
        return False
    if place == 1:
        kind = line[2:].split(" ")[0]
        return " " in line[2:] and is_plain(kind) and type(kind) is str
    if place == 2:
        try:
            return type(read_data(line[2:])) is tuple
        except NoText:
            return False
    return True


class FirstWrong(Case):
    def test_right_logs(self):
        entries = entries_of(SESSION)
        self.assertEqual(first_wrong(entries), -1)
        self.assertEqual(first_wrong(read_log(write_log(entries))), -1)
        self.assertEqual(first_wrong([]), -1)
        for size in range(len(entries)):
            self.assertEqual(first_wrong(entries[:size]), -1)

    def test_more_than_300_lines(self):
        entries = [("let c = 0: 1 1; 2", Reply("complex", "0: 1 1; 2"))] + [("euler c", Reply("number", "0"))] * 400
        self.assertEqual(first_wrong(entries), -1)
        self.assertEqual(first_wrong(entries + [("euler c", Reply("number", "1"))]), 401)

    def test_wrong_entries_at_each_place(self):
        entries = entries_of(SESSION)
        for at, (line, reply) in enumerate(entries):
            for other in (None, (), line, reply, (line,), [line, reply], (line, reply, ()), (reply, line), (line, Reply("wrong")),
                          (line, Reply(reply.kind, reply.text + "x", reply.data)), (line, Reply(reply.kind, reply.text, (1,))),
                          (line, Reply("error", "texts")), (line, None)):
                spoilt = entries[:at] + [other] + entries[at + 1:]
                self.assertEqual(first_wrong(spoilt), at)
                self.assertEqual(first_wrong(spoilt + [None]), at)

    def test_papers_changed_at_one_place(self):
        chance = seeded(243)
        entries = entries_of(SESSION)
        seen = []
        for at, (line, reply) in enumerate(entries):
            if reply.data == ():
                continue
            for data in changes(chance, reply.data, 20):
                spoilt = entries[:at] + [(line, Reply(reply.kind, reply.text, data))] + entries[at + 1:]
                found = first_wrong(spoilt)
                self.assertIn(found, (-1, at))
                seen.append(found)
        self.assertGreater(len([found for found in seen if found >= 0]), 50)

    def test_definitions_of_the_lines_before(self):
        entries = [("let c = 0: 1 1; 2", Reply("complex", "0: 1 1; 2")), ("show d", Reply("error", "refused name")),
                   ("moved d c 1", Reply("complex", "1: 1 1; -2")), ("show d", Reply("complex", "1: 1 1; -2")),
                   ("let d = 0: 1", Reply("complex", "0: 1")), ("show d", Reply("complex", "0: 1")),
                   ("let d = 0", Reply("error", "text")), ("show d", Reply("complex", "0: 1")),
                   ("map d d d = 3", Reply("map", "3")), ("show d", Reply("map", "3")),
                   ("moved c c 30", Reply("error", "refused large")), ("show c", Reply("complex", "0: 1 1; 2"))]
        self.assertEqual(first_wrong(entries), -1)
        # Without the first definition the second entry is right, and the third one is not.
        self.assertEqual(first_wrong(entries[1:]), 1)
        self.assertEqual(first_wrong(entries[3:]), 0)
        self.assertEqual(first_wrong(entries[:2] + entries[3:]), 2)

    def test_lines_that_are_none(self):
        for value in ODD + tuple(NO_LINES):
            right = value not in ("", "let c = 0: 1")
            self.assertEqual(first_wrong([(value, Reply("error", "text"))]), -1 if right else 0)
        for line, _ in LINES:
            self.assertEqual(first_wrong([(line, reply_to({}, line))]), -1)

    def test_items_of_any_kind(self):
        for value in ODD:
            right = value == ("", Reply("done"))
            self.assertEqual(first_wrong([value]), -1 if right else 0)
            self.assertEqual(first_wrong([("", Reply("done")), value]), -1 if right else 1)
