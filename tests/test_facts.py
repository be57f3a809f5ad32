"""The main facts of the document (point 0.4), over the whole program."""

from tests.helper import Case, seeded, some_levelled
from tests.test_checker import equivalence_cases, homotopy_cases
from tests.test_filtered import some_products
from tests.test_long import some_rows, span_of_degrees
from cyclebounds.checker import takes_alike, takes_equivalent, takes_exact, takes_homotopic, takes_split
from cyclebounds.cone import equivalence, is_equivalence
from cyclebounds.ext import ext_class, ext_group, extension_of
from cyclebounds.extension import alike, alike_bar, baer_sum, section, split_bar
from cyclebounds.group import Group, are_isomorphic, cyclic_group
from cyclebounds.homology import homology
from cyclebounds.homotopy import homotopy, homotopy_bar
from cyclebounds.pages import last_page, level_part, next_page, page, page_map
from cyclebounds.papers import alike_paper, equivalence_paper, exact_paper, homotopy_paper, split_paper


class Facts(Case):
    def test_homotopic_or_barred(self):
        for f, g in homotopy_cases(260, 40):
            matrices, bar = homotopy(f, g), homotopy_bar(f, g)
            self.assertNotEqual(matrices is None, bar is None)
            paper = ("homotopy", matrices) if bar is None else ("bar",) + bar
            self.assertIs(takes_homotopic(f, g, paper), True)
            self.assertEqual(homotopy_paper(f, g)[0], paper[0])
            if bar is None:
                for n in f.source.degrees():
                    self.assertTrue(f.induced(n) == g.induced(n))

    def test_equivalent_or_apart(self):
        for a, b in equivalence_cases(261, 40):
            degrees = set(a.degrees()) | set(b.degrees())
            alike_in_each = all(are_isomorphic(homology(a, n), homology(b, n)) for n in degrees)
            paper = equivalence_paper(a, b)
            self.assertIs(takes_equivalent(a, b, paper), True)
            self.assertEqual(paper[0] == "equivalence", alike_in_each)
            found = equivalence(a, b)
            self.assertEqual(found is not None, alike_in_each)
            self.assertTrue(found is None or is_equivalence(found[0]))

    def test_extensions_are_a_finite_group(self):
        for a, b in ((cyclic_group(4), cyclic_group(6)), (Group(2, ((2, 0), (0, 4))), cyclic_group(2)), (cyclic_group(3), Group(1))):
            group = ext_group(a, b)
            found = {c: extension_of(a, b, c) for c in group.all_elements()}
            for c, x in found.items():
                self.assertEqual(ext_class(x), c)
                self.assertEqual(section(x) is None, any(c))
                self.assertEqual(split_bar(x) is None, not any(c))
                self.assertEqual(split_paper(x)[0] == "section", not any(c))
                self.assertIs(takes_split(x, split_paper(x)), True)
                for d, y in found.items():
                    self.assertEqual(alike(x, y) is None, c != d)
                    self.assertEqual(alike_bar(x, y) is None, c == d)
                    self.assertIs(takes_alike(x, y, alike_paper(x, y)), True)
                    self.assertEqual(ext_class(baer_sum(x, y)), group.normal(tuple(p + q for p, q in zip(c, d))))

    def test_long_rows_are_exact_with_papers(self):
        for _, row in some_rows(262, 25):
            degrees = span_of_degrees(row)
            found = row.long_row(degrees[-1], degrees[0])
            for f, g in zip(found, found[1:]):
                paper = exact_paper(f, g)
                self.assertEqual(paper[0], "exact")
                self.assertIs(takes_exact(f, g, paper), True)

    def test_pages_lead_to_what_is_left(self):
        chance = seeded(264)
        cases = [found.filtered for found in some_levelled(chance, 12)] + list(some_products(chance, 6))
        for f in cases:
            for n in f.complex.degrees():
                for p in range(10):
                    for r in (0, 1, 2, 5, 9):
                        group, onto = next_page(f, r, p, n)
                        self.assertEqual(onto.source, page(f, r + 1, p, n))
                        self.assertEqual(onto.inverse().target, onto.source)
                        self.assertTrue(page_map(f, r, p + r, n + 1).then(page_map(f, r, p, n)).is_zero())
                    group, onto = last_page(f, p, n)
                    self.assertEqual(onto.inverse().source, group)
                self.assertEqual(level_part(f, 9, n).index(), 1)
                self.assertTrue(self.order_of_parts(f, n))

    def order_of_parts(self, f, n):
        """Whether the orders of what is left multiply to the order of the homology, ranks added."""
        total = homology(f.complex, n).invariants()
        parts = [last_page(f, p, n)[0].invariants() for p in range(10)]
        if sum(rank for _, rank in parts) != total[1]:
            return False
        if total[1]:
            return True
        product, expected = 1, 1
        for sizes, _ in parts:
            for size in sizes:
                product *= size
        for size in total[0]:
            expected *= size
        return product == expected
