"""The names and arguments of the interface stand where it lists them (point 0.1)."""

import ast
import importlib
import inspect
import pathlib
import unittest

import cyclebounds

FUNCTIONS = {
    "whole": ("is_integer(value)", "common_divisor(numbers)", "combination(a, b)"),
    "rows": (
        "is_row(value, n)", "is_matrix(value, n, width)", "unit_row(n, i)", "unit_matrix(n)", "zero_matrix(n, width)",
        "add(v, w)", "scaled(v, c)", "dot(v, w)", "moved(x, rows, width)", "times(one, two, width)",
        "transposed(rows, width)", "span(rows, width)", "is_reduced(value, width)", "rest(space, x)",
        "holds(space, x)", "coordinates(space, x)", "sum_of(a, b, width)", "common_part(a, b, width)",
        "kernel(rows, width)", "solve(rows, width, b)"),
    "smith": (
        "divisors(rows, width)", "smith(rows, width)", "bar(rows, width, b)", "determinant(matrix)",
        "is_turnable(value, n)", "inverse(matrix)"),
    "group": ("read_group(text)", "free_group(n)", "cyclic_group(k)", "are_isomorphic(a, b)"),
    "subgroup": (
        "whole(group)", "zero(group)", "sum_of_subgroups(a, b)", "meet(a, b)", "multiples(group, k)",
        "annulled(group, k)", "torsion(group)"),
    "maps": (
        "identity_map(g)", "zero_map(a, b)", "group_of(subgroup)", "quotient_of(subgroup)", "standard_group(g)",
        "isomorphism(a, b)"),
    "exact": ("is_exact(f, g)", "origin(f, y)", "lifted(f, g)", "extended(f, i)"),
    "build": (
        "sum_of_groups(groups)", "into_sum(groups, k)", "out_of_sum(groups, k)", "pullback(f, g)",
        "into_pullback(f, g, u, v)", "pushout(f, g)", "out_of_pushout(f, g, u, v)"),
    "tensor": (
        "tensor_group(a, b)", "tensor_of(a, b, x, y)", "tensor_map(f, g)", "hom_group(a, b)", "hom_into(a, b)",
        "hom_of(a, b, x)", "hom_row(f)", "hom_map(f, g)", "tor_group(a, b)", "tor_into(a, b)", "tor_map(f, b)"),
    "extension": (
        "section(x)", "split_bar(x)", "alike(x, y)", "pulled(x, f)", "pushed(x, g)", "baer_sum(x, y)"),
    "ext": (
        "ext_group(a, b)", "ext_class(x)", "extension_of(a, b, c)", "ext_pulled(f, b)", "ext_pushed(a, g)",
        "middles(a, b)"),
    "sixes": ("six_out(x, g)", "six_in(g, x)", "six_tensor(x, g)"),
    "complexes": ("read_complex(text)", "moved_by(c, k)", "dual(c)", "sum_of_complexes(a, b)"),
    "homology": (
        "cycles(c, n)", "boundaries(c, n)", "homology(c, n)", "is_cycle(c, n, value)", "class_of(c, n, z)",
        "cycle_of(c, n, x)", "filling(c, n, z)", "filling_bar(c, n, z)"),
    "standard": ("pieces(c)", "standard_complex(c)", "standard(c)", "same_homology(a, b)"),
    "chain": ("identity_chain(c)", "zero_chain(c, d)"),
    "homotopy": ("is_homotopy(f, g, value)", "homotopy(f, g)", "homotopy_bar(f, g)", "contraction(c)"),
    "cone": (
        "cone(f)", "into_cone(f)", "out_of_cone(f)", "is_equivalence(f)", "equivalence_of(f)", "equivalence(a, b)"),
    "classes": ("maps_group(c, d)", "class_of_map(f)", "map_of_class(c, d, x)"),
    "long": ("cone_row(f)", "six_groups(f, g, i, j, a, b, c)"),
    "products": (
        "tensor_complex(c, d)", "matrix_complex(c, d)", "product_row(c, d, p, x, q, y)",
        "row_of_matrices(c, d, n, matrices)", "matrices_of_row(c, d, n, row)", "cross_map(c, d, p, q)",
        "kuenneth(c, d, n)"),
    "coefficients": (
        "cycles_modulo(c, m, n)", "homology_modulo(c, m, n)", "class_modulo(c, m, n, z)", "reduction(c, m, n)",
        "bockstein(c, m, n)", "universal_row(c, m, n)"),
    "filtered": ("part_of(f, p)",),
    "pages": (
        "near_cycles(f, r, p, n)", "near_boundaries(f, r, p, n)", "page(f, r, p, n)", "page_class(f, r, p, n, x)",
        "page_map(f, r, p, n)", "next_page(f, r, p, n)", "level_part(f, p, n)", "last_page(f, p, n)"),
    "papers": (
        "filling_paper(c, n, z)", "homotopy_paper(f, g)", "equivalence_paper(a, b)", "exact_paper(f, g)",
        "split_paper(extension)", "alike_paper(one, two)"),
    "checker": (
        "takes_filling(c, n, z, paper)", "takes_homotopic(f, g, paper)", "takes_equivalent(a, b, paper)",
        "takes_exact(f, g, paper)", "takes_split(extension, paper)", "takes_alike(one, two, paper)"),
    "sheet": ("matrices_text(matrices)", "read_matrices(text)", "read_line(line)"),
    "replies": ("reply_to(names, line)", "defined(names, line)", "is_right(names, entry)"),
    "log": ("write_data(data)", "read_data(text)", "write_log(entries)", "read_log(text)", "first_wrong(entries)"),
    "console": (),
}

CLASSES = {
    ("errors", "Fault"): (),
    ("errors", "Malformed"): (),
    ("errors", "Refused"): ("__init__(self, reason)",),
    ("errors", "NoText"): ("__init__(self, at)",),
    ("group", "Group"): (
        "__init__(self, n, relations=())", "is_row(self, value)", "normal(self, x)", "same(self, x, y)",
        "is_zero(self, x)", "order_of(self, x)", "order(self)", "invariants(self)", "all_elements(self)",
        "__eq__(self, other)", "__str__(self)"),
    ("subgroup", "Subgroup"): (
        "__init__(self, group, rows)", "holds(self, value)", "index(self)", "is_inside(self, other)",
        "__eq__(self, other)"),
    ("maps", "Map"): (
        "__init__(self, source, target, matrix)", "value(self, x)", "__eq__(self, other)", "__add__(self, other)",
        "__sub__(self, other)", "__neg__(self)", "scaled(self, k)", "then(self, g)", "kernel(self)", "image(self)",
        "is_zero(self)", "is_one_to_one(self)", "is_onto(self)", "inverse(self)"),
    ("extension", "Extension"): ("__init__(self, i, p)", "first(self)", "middle(self)", "last(self)"),
    ("complexes", "Complex"): (
        "__init__(self, low, ranks, boundaries)", "rank(self, n)", "boundary(self, n)", "degrees(self)",
        "is_row(self, n, value)", "turned(self, n, x)", "__eq__(self, other)", "__str__(self)", "euler(self)"),
    ("chain", "ChainMap"): (
        "__init__(self, source, target, matrices)", "matrix(self, n)", "value(self, n, x)", "__add__(self, other)",
        "__sub__(self, other)", "__neg__(self)", "scaled(self, c)", "then(self, g)", "__eq__(self, other)",
        "induced(self, n)"),
    ("long", "ShortRow"): ("__init__(self, f, g)", "connecting(self, n)", "long_row(self, high, low)"),
    ("filtered", "Filtered"): ("__init__(self, c, levels)", "__eq__(self, other)", "steady(self)"),
    ("replies", "Reply"): ("__init__(self, kind, text='', data=())", "__eq__(self, other)"),
    ("console", "Console"): (
        "__init__(self, *, most=300)", "enter(self, line)", "__len__(self)", "__iter__(self)", "names(self)",
        "log(self)"),
}


# The chapters of the document, in their order, and the files that the interface lists for them.
CHAPTERS = (
    ("errors",), ("whole", "rows", "smith"), ("group", "subgroup"), ("maps", "exact"), ("build", "tensor"),
    ("extension", "ext", "sixes"), ("complexes", "homology", "standard"), ("chain", "homotopy", "cone", "classes"),
    ("long",), ("products", "coefficients"), ("filtered", "pages"), ("papers", "checker"),
    ("sheet", "replies", "log", "console"),
)


def module(name):
    return importlib.import_module(f"cyclebounds.{name}")


class Interface(unittest.TestCase):
    def test_functions(self):
        for name, signatures in FUNCTIONS.items():
            for signature in signatures:
                called = signature.split("(")[0]
                function = getattr(module(name), called)
                self.assertEqual(function.__module__, f"cyclebounds.{name}")
                self.assertEqual(called + str(inspect.signature(function)), signature)

    def test_classes(self):
        for (name, called), methods in CLASSES.items():
            found = getattr(module(name), called)
            self.assertEqual(found.__module__, f"cyclebounds.{name}")
            for signature in methods:
                method = signature.split("(")[0]
                self.assertIn(method, vars(found))
                self.assertEqual(method + str(inspect.signature(vars(found)[method])), signature)

    def test_chapters_use_only_those_before(self):
        folder = pathlib.Path(cyclebounds.__file__).parent
        places = {name: at for at, names in enumerate(CHAPTERS) for name in names}
        self.assertEqual(sorted([*places, "__init__"]), sorted(path.stem for path in folder.glob("*.py")))
        self.assertEqual(sorted(places), sorted({*FUNCTIONS, *[name for name, _ in CLASSES]}))
        for name, at in places.items():
            tree = ast.parse((folder / f"{name}.py").read_text())
            for node in [node for node in ast.walk(tree) if isinstance(node, ast.ImportFrom)]:
                if node.module != "math":
                    self.assertLessEqual(places[node.module.partition(".")[2]], at, name)

    def test_the_package_defines_nothing(self):
        text = pathlib.Path(cyclebounds.__file__).read_text()
        body = compile(text, "__init__.py", "exec").co_names
        self.assertEqual([name for name in body if name != "__doc__"], [])
