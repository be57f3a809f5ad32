"""Papers (chapter 11): there is always one, of the kind that holds."""

from tests.helper import GREAT, ODD, Case, Pieced, random_pieces, random_rows, seeded
from tests.test_checker import (
    NOTHING, TWO, alike_cases, equivalence_cases, exact_cases, filling_cases, homotopy_cases, judge_alike,
    judge_equivalent, judge_exact, judge_filling, judge_homotopic, judge_split, split_cases)
from cyclebounds.chain import identity_chain, zero_chain
from cyclebounds.checker import (
    takes_alike, takes_equivalent, takes_exact, takes_filling, takes_homotopic, takes_split)
from cyclebounds.complexes import Complex
from cyclebounds.exact import is_exact
from cyclebounds.ext import ext_class, ext_group, extension_of
from cyclebounds.extension import Extension, alike, alike_bar, section
from cyclebounds.group import Group, cyclic_group, free_group
from cyclebounds.homology import class_of, is_cycle
from cyclebounds.homotopy import homotopy
from cyclebounds.maps import Map, identity_map, quotient_of, zero_map
from cyclebounds.papers import (
    alike_paper, equivalence_paper, exact_paper, filling_paper, homotopy_paper, split_paper)
from cyclebounds.standard import same_homology


class Kinds(Case):
    def check(self, paper, takes, judge, args, kinds, sizes):
        """The paper is accepted, has one of the kinds, and as many items as this kind has."""
        self.assertIs(type(paper), tuple)
        self.assertIn(paper[0], kinds)
        self.assertEqual(len(paper), sizes[kinds.index(paper[0])])
        self.assertIs(takes(*args, paper), True)
        self.assertTrue(judge(*args, paper))
        return paper[0]

    def test_fillings(self):
        seen = []
        for c, n, z in filling_cases(210, 60):
            kind = self.check(filling_paper(c, n, z), takes_filling, judge_filling, (c, n, z), ("filling", "bar"), (2, 3))
            self.assertEqual(kind == "filling", not any(class_of(c, n, z)))
            seen.append(kind)
        self.assertGreater(seen.count("bar"), 10)

    def test_homotopies(self):
        seen = []
        for f, g in homotopy_cases(211, 80):
            kind = self.check(homotopy_paper(f, g), takes_homotopic, judge_homotopic, (f, g), ("homotopy", "bar"), (2, 5))
            self.assertEqual(kind == "homotopy", homotopy(f, g) is not None)
            seen.append(kind)
        self.assertGreater(seen.count("bar"), 10)

    def test_equivalences(self):
        seen = []
        for a, b in equivalence_cases(212, 60):
            kind = self.check(equivalence_paper(a, b), takes_equivalent, judge_equivalent, (a, b),
                              ("equivalence", "apart"), (5, 3))
            self.assertEqual(kind == "equivalence", same_homology(a, b))
            seen.append(kind)
        self.assertGreater(seen.count("apart"), 10)

    def test_exact_rows(self):
        seen = {}
        for f, g in exact_cases(213, 80):
            kind = self.check(exact_paper(f, g), takes_exact, judge_exact, (f, g), ("exact", "left", "beside"), (4, 4, 2))
            self.assertEqual(kind == "exact", is_exact(f, g))
            self.assertEqual(kind == "beside", not f.then(g).is_zero())
            seen[kind] = seen.get(kind, 0) + 1
        self.assertGreater(min(seen.values()), 10)
        self.assertEqual(len(seen), 3)

    def test_sections(self):
        seen = []
        for x, in split_cases(214, 120):
            kind = self.check(split_paper(x), takes_split, judge_split, (x,), ("section", "bar"), (2, 5))
            self.assertEqual(kind == "section", section(x) is not None)
            self.assertEqual(kind == "section", not any(ext_class(x)))
            seen.append(kind)
        self.assertGreater(seen.count("bar"), 10)

    def test_extensions_alike(self):
        seen = []
        for x, y in alike_cases(215, 60):
            kind = self.check(alike_paper(x, y), takes_alike, judge_alike, (x, y), ("alike", "apart"), (2, 8))
            self.assertEqual(kind == "alike", ext_class(x) == ext_class(y))
            self.assertEqual(alike_bar(x, y) is None, alike(x, y) is not None)
            seen.append(kind)
        self.assertGreater(seen.count("apart"), 10)

    def test_all_classes_of_two_rounds(self):
        for a, b in ((cyclic_group(4), cyclic_group(4)), (cyclic_group(6), cyclic_group(2)), (cyclic_group(2), Group(1))):
            found = [extension_of(a, b, c) for c in ext_group(a, b).all_elements()]
            for x in found:
                for y in found:
                    kind = self.check(alike_paper(x, y), takes_alike, judge_alike, (x, y), ("alike", "apart"), (2, 8))
                    self.assertEqual(kind == "alike", x is y)


class Wrong(Case):
    def test_no_cycles(self):
        c = Complex(0, (2, 2), (((2, 0), (0, 0)),))
        for value in ODD + ((0, 1), (1, 0), (0, 0), (0, -3), [0, 1]):
            if is_cycle(c, 1, value):
                self.assertIn(filling_paper(c, 1, value)[0], ("filling", "bar"))
            else:
                self.malformed(filling_paper, c, 1, value)

    def test_unlike_ends(self):
        f = identity_chain(TWO)
        for g in (identity_chain(NOTHING), zero_chain(TWO, NOTHING), zero_chain(NOTHING, TWO)):
            self.malformed(homotopy_paper, f, g)
            self.malformed(homotopy_paper, g, f)
        line = Group(1)
        self.malformed(exact_paper, identity_map(line), identity_map(cyclic_group(2)))
        self.malformed(exact_paper, zero_map(line, Group(0)), identity_map(line))
        a, b = cyclic_group(2), cyclic_group(4)
        x = extension_of(a, a, (1,))
        for y in (extension_of(a, b, (1,)), extension_of(b, a, (1,)), extension_of(b, b, (0,))):
            self.malformed(alike_paper, x, y)
            self.malformed(alike_paper, y, x)


class Large(Case):
    def test_complexes(self):
        chance = seeded(216)
        found = random_pieces(chance, -20, 8, 200, (0, 1, 2, 4))
        a, b = Pieced(chance, -20, 8, found, 60).complex, Pieced(chance, -20, 8, found, 60).complex
        c = Pieced(chance, -20, 8, random_pieces(chance, -20, 8, 200, (0, 3)), 60).complex
        for one, two, kind in ((a, b, "equivalence"), (a, c, "apart")):
            paper = equivalence_paper(one, two)
            self.assertEqual(paper[0], kind)
            self.assertIs(takes_equivalent(one, two, paper), True)
        f = identity_chain(a)
        self.assertIs(takes_homotopic(f, f.scaled(5), homotopy_paper(f, f.scaled(5))), True)

    def test_great_items(self):
        chance = seeded(217)
        c = Complex(0, (12, 12), [random_rows(chance, 12, 12, 10 ** 20)])
        d = Complex(0, (12, 12), [random_rows(chance, 12, 12, 10 ** 20)])
        self.assertIs(takes_equivalent(c, d, equivalence_paper(c, d)), True)
        self.assertIs(takes_equivalent(c, c, equivalence_paper(c, c)), True)
        z = random_rows(chance, 1, 12, GREAT)[0]
        for row in (z, c.turned(1, z)):
            self.assertIs(takes_filling(c, 0, row, filling_paper(c, 0, row)), True)

    def test_groups_of_40_generators(self):
        chance = seeded(218)
        group = Group(40, random_rows(chance, 30, 40, 9))
        f = Map(free_group(40), group, random_rows(chance, 40, 40, 9))
        _, g = quotient_of(f.image())
        for one, two in ((f, g), (f.scaled(2), g), (f, identity_map(group)), (zero_map(Group(0), group), g)):
            paper = exact_paper(one, two)
            self.assertEqual(paper[0] == "exact", is_exact(one, two))
            self.assertIs(takes_exact(one, two, paper), True)
        two, four = [Group(40, [[k if i == j else 0 for j in range(40)] for i in range(40)]) for k in (6, 36)]
        x = Extension(Map(two, four, two.relations), Map(four, two, identity_map(two).matrix))
        self.assertEqual(split_paper(x)[0], "bar")
        self.assertIs(takes_split(x, split_paper(x)), True)
        y = Extension(x.i, x.p.scaled(-1))
        for one, other in ((x, y), (x, x)):
            self.assertIs(takes_alike(one, other, alike_paper(one, other)), True)
