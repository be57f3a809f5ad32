"""No function changes its arguments, and asked again it answers alike (point 0.2)."""

import copy

from tests.helper import Case, snapshot
from cyclebounds import (
    build, chain, checker, classes, coefficients, complexes, cone, exact, ext, extension, filtered, group, homology,
    homotopy, log, long, maps, pages, papers, products, replies, rows, sheet, sixes, smith, standard, subgroup, tensor,
    whole)
from cyclebounds.chain import ChainMap
from cyclebounds.complexes import Complex
from cyclebounds.console import Console
from cyclebounds.extension import Extension
from cyclebounds.filtered import Filtered
from cyclebounds.group import Group, cyclic_group, read_group
from cyclebounds.long import ShortRow, cone_row
from cyclebounds.maps import Map, identity_map
from cyclebounds.replies import Reply
from cyclebounds.subgroup import Subgroup

TABLE = [(2, 4), (3, 1)]
SPACE = ((1, 7), (0, 10))
A = Group(2, [[2, 4], [0, 6]])
B = cyclic_group(4)
F = Map(A, B, [[2], [2]])
G = Map(B, A, [[0, 3]])
PART = Subgroup(A, [[1, 1]])
OTHER = Subgroup(A, [[0, 2]])
X = ext.extension_of(B, A, (1, 2))
Y = ext.extension_of(B, A, (3, 0))
C = Complex(-1, [2, 2, 1], [[[1, -1], [2, -2]], [[-2, 1]]])
D = Complex(0, (1, 1), (((2,),),))
K = ChainMap(D, C, [[[0, 0]], [[0]]])
L = ChainMap(D, D, [[[3]], [[3]]])
M = ChainMap(D, D, (((1,),), ((1,),)))
R = cone_row(L)
SEVEN = (X.i, X.p, X.i, X.p, *[identity_map(group).scaled(2) for group in (X.first(), X.middle(), X.last())])
W = Filtered(C, [[0, 3], [3, 3], [5]])
NAMES = {"c": C, "d": D, "l": L, "m": M}
ENTRY = ("filling d 0 3", Reply("filling", "no", ("bar", (1,), 2)))
ENTRIES = [("let d = 0: 1 1; 2", Reply("complex", "0: 1 1; 2")), ENTRY, ("", Reply("done"))]
U = Console()

CALLS = (
    (whole.is_integer, 3), (whole.common_divisor, [4, -6]), (whole.combination, 4, -6),
    (rows.is_row, [1, 2], 2), (rows.is_matrix, [[1, 2]], 1, 2), (rows.unit_row, 3, 1), (rows.unit_matrix, 3),
    (rows.zero_matrix, 2, 3), (rows.add, (1, 2), (3, 4)), (rows.scaled, (1, 2), 3), (rows.dot, (1, 2), (3, 4)),
    (rows.moved, (1, 2), TABLE, 2), (rows.times, TABLE, TABLE, 2), (rows.transposed, TABLE, 2), (rows.span, TABLE, 2),
    (rows.is_reduced, [list(row) for row in SPACE], 2), (rows.rest, SPACE, (2, 3)), (rows.holds, SPACE, (2, 3)),
    (rows.coordinates, SPACE, (2, 4)), (rows.sum_of, SPACE, ((0, 3),), 2), (rows.common_part, SPACE, ((0, 3),), 2),
    (rows.kernel, TABLE, 2), (rows.solve, TABLE, 2, (5, 5)),
    (smith.divisors, TABLE, 2), (smith.smith, TABLE, 2), (smith.bar, TABLE, 2, (0, 1)),
    (smith.determinant, tuple(TABLE)), (smith.is_turnable, [[1]], 1), (smith.inverse, ((2, 1), (1, 1))),
    (Group, 2, [[2, 4], [3, 1]]), (A.is_row, [1, 2]), (A.normal, (3, 0)), (A.same, (3, 0), (1, 2)), (A.is_zero, (2, 4)),
    (A.order_of, (1, 0)), (A.order,), (A.invariants,), (A.all_elements,), (str, A), (A.__eq__, B),
    (read_group, "2: 2 4, 0 6"), (group.free_group, 3), (group.cyclic_group, 5), (group.are_isomorphic, A, B),
    (Subgroup, A, [[1, 1]]), (PART.holds, [1, 1]), (PART.index,), (PART.is_inside, OTHER), (PART.__eq__, OTHER),
    (subgroup.whole, A), (subgroup.zero, A), (subgroup.sum_of_subgroups, PART, OTHER), (subgroup.meet, PART, OTHER),
    (subgroup.multiples, A, 2), (subgroup.annulled, A, 2), (subgroup.torsion, A),
    (Map, A, B, [[2], [2]]), (F.value, (1, 1)), (F.__eq__, G), (F.__add__, F), (F.__sub__, F), (F.__neg__,),
    (F.scaled, 3), (F.then, G), (F.kernel,), (F.image,), (F.is_zero,), (F.is_one_to_one,), (F.is_onto,),
    (identity_map(A).inverse,), (maps.identity_map, A), (maps.zero_map, A, B), (maps.group_of, PART),
    (maps.quotient_of, PART), (maps.standard_group, A), (maps.isomorphism, A, A),
    (exact.is_exact, F, G), (exact.origin, F, (2,)), (exact.lifted, F, identity_map(B)),
    (exact.extended, F, identity_map(A)),
    (build.sum_of_groups, [A, B]), (build.into_sum, [A, B], 1), (build.out_of_sum, [A, B], 1),
    (build.pullback, F, F), (build.into_pullback, F, F, G, G), (build.pushout, F, F),
    (build.out_of_pushout, F, F, G, G),
    (tensor.tensor_group, A, B), (tensor.tensor_of, A, B, (1, 2), (3,)), (tensor.tensor_map, F, G),
    (tensor.hom_group, A, B), (tensor.hom_into, A, B), (tensor.hom_of, A, B, (1, 1)), (tensor.hom_row, F),
    (tensor.hom_map, F, G), (tensor.tor_group, A, B), (tensor.tor_into, A, B), (tensor.tor_map, F, B),
    (Extension, X.i, X.p), (X.first,), (X.middle,), (X.last,), (extension.section, X), (extension.split_bar, X),
    (extension.alike, X, Y), (extension.alike, X, X), (extension.pulled, X, F), (extension.pushed, X, F),
    (extension.baer_sum, X, Y),
    (ext.ext_group, A, B), (ext.ext_class, X), (ext.extension_of, B, A, (1, 2)), (ext.ext_pulled, F, A),
    (ext.ext_pushed, B, F), (ext.middles, A, B), (sixes.six_out, X, B), (sixes.six_in, B, X), (sixes.six_tensor, X, B),
    (Complex, -1, [2, 2, 1], [[[1, -1], [2, -2]], [[-2, 1]]]), (C.rank, 1), (C.boundary, 0), (C.degrees,),
    (C.is_row, 1, [3]), (C.turned, 0, (1, 2)), (C.euler,), (str, C), (C.__eq__, D),
    (complexes.read_complex, "0: 2 1; 1 -1"), (complexes.moved_by, C, 3), (complexes.dual, C),
    (complexes.sum_of_complexes, C, D),
    (homology.cycles, C, 0), (homology.boundaries, C, 0), (homology.homology, C, 0), (homology.is_cycle, C, 0, [2, -1]),
    (homology.class_of, C, 0, (-4, 2)), (homology.cycle_of, C, 0, (3,)), (homology.filling, C, 0, (2, -1)),
    (homology.filling_bar, C, -1, (1, 0)),
    (standard.pieces, C), (standard.standard_complex, C), (standard.standard, C), (standard.same_homology, C, D),
    (ChainMap, D, C, [[[0, 0]], [[0]]]), (K.matrix, 1), (K.value, 0, (2,)), (K.__eq__, L), (L.__add__, M),
    (L.__sub__, M), (L.__neg__,), (L.scaled, 3), (L.then, K), (L.induced, 0),
    (chain.identity_chain, C), (chain.zero_chain, C, D),
    (homotopy.is_homotopy, L, M, [[[1]], [[]]]), (homotopy.is_homotopy, L, M, (((1,),), ((),))),
    (homotopy.homotopy, L, M), (homotopy.homotopy_bar, L, M), (homotopy.homotopy_bar, L, M.scaled(2)),
    (homotopy.contraction, C), (cone.cone, L), (cone.into_cone, L), (cone.out_of_cone, L), (cone.is_equivalence, L),
    (cone.equivalence_of, L), (cone.equivalence, D, D), (classes.maps_group, C, D), (classes.class_of_map, L),
    (classes.map_of_class, D, D, (5,)),
    (ShortRow, R.f, R.g), (R.connecting, 1), (R.long_row, 2, 0), (long.cone_row, L), (long.six_groups, *SEVEN),
    (products.tensor_complex, C, D), (products.matrix_complex, D, C), (products.product_row, C, D, 0, (1, 2), 1, (3,)),
    (products.row_of_matrices, D, D, 0, [[[1]], [[2]]]), (products.matrices_of_row, D, D, 0, (1, 2)),
    (products.cross_map, C, D, 0, 0), (products.kuenneth, D, D, 1),
    (coefficients.cycles_modulo, C, 2, 0), (coefficients.homology_modulo, C, 2, 0),
    (coefficients.class_modulo, D, 2, 1, (3,)), (coefficients.reduction, C, 2, 0), (coefficients.bockstein, D, 4, 1),
    (coefficients.universal_row, D, 4, 1),
    (Filtered, C, [[0, 3], [3, 3], [5]]), (W.__eq__, W), (W.steady,), (filtered.part_of, W, 3),
    (pages.near_cycles, W, 1, 3, 0), (pages.near_boundaries, W, 1, 3, 0), (pages.page, W, 1, 3, 0),
    (pages.page_class, W, 1, 3, 0, (2, -1)), (pages.page_map, W, 2, 5, 1), (pages.next_page, W, 2, 3, 0),
    (pages.level_part, W, 3, 0), (pages.last_page, W, 3, 0),
    (papers.filling_paper, C, 0, (2, -1)), (papers.filling_paper, D, 0, (3,)), (papers.homotopy_paper, L, M),
    (papers.equivalence_paper, D, D), (papers.equivalence_paper, C, D), (papers.exact_paper, X.i, X.p),
    (papers.exact_paper, F, G), (papers.split_paper, X), (papers.alike_paper, X, Y), (papers.alike_paper, X, X),
    (checker.takes_filling, D, 0, (3,), ["bar", [1], 2]), (checker.takes_filling, D, 0, (3,), ("bar", (1,), 2)),
    (checker.takes_homotopic, L, M, papers.homotopy_paper(L, M)),
    (checker.takes_equivalent, C, D, papers.equivalence_paper(C, D)),
    (checker.takes_equivalent, D, D, ("equivalence", [[[1]], [[1]]], [], [], [])),
    (checker.takes_exact, X.i, X.p, papers.exact_paper(X.i, X.p)), (checker.takes_split, X, papers.split_paper(X)),
    (checker.takes_alike, X, Y, papers.alike_paper(X, Y)), (checker.takes_alike, X, X, papers.alike_paper(X, X)),
    (sheet.matrices_text, ((), ((1, 2),))), (sheet.read_matrices, "1 2; -"), (sheet.read_line, "let c = 0: 1 1; 2"),
    (Reply, "kind", "text", (1, 2)), (ENTRY[1].__eq__, ENTRIES[0][1]),
    (replies.reply_to, NAMES, "homotopic l m"), (replies.reply_to, NAMES, "sum c c d"),
    (replies.defined, NAMES, "sum c c d"), (replies.is_right, NAMES, ENTRY), (replies.is_right, NAMES, list(ENTRY)),
    (log.write_data, (1, ("a", ()))), (log.read_data, "(1 (a ()))"), (log.write_log, ENTRIES),
    (log.read_log, "> x\n= error text\n# ()\n"), (log.first_wrong, ENTRIES), (log.first_wrong, [[1], None]),
    (Console,), (U.names,), (U.log,), (U.__len__,), (len, U),
)


class Unchanged(Case):
    def test_arguments_stay_and_answers_are_equal(self):
        for call, *args in CALLS:
            # A method's own object counts among what it is handed.
            held = [args, getattr(call, "__self__", None), A, B, F, G, PART, OTHER, TABLE, X, Y, C, D, K, L, M, R, SEVEN, W, NAMES, ENTRY, ENTRIES, U]
            before = snapshot(held)
            first = call(*args)
            self.assertEqual(snapshot(held), before, call)
            again = call(*copy.deepcopy(args))
            self.assertEqual(snapshot(again), snapshot(first), call)

    def test_a_console_changes_and_its_lines_do_not(self):
        console = Console()
        found = [console.enter("let c = 0: 1 1; 2"), console.enter("filling c 0 4")]
        before = snapshot(found)
        kept = snapshot(console.names())
        console.enter("dual c c")
        self.assertEqual(snapshot(found), before)
        self.assertEqual(snapshot(list(console)[:2]), snapshot([("let c = 0: 1 1; 2", found[0]), ("filling c 0 4", found[1])]))
        self.assertNotEqual(snapshot(console.names()), kept)

    def test_lists_handed_in_may_change_afterwards(self):
        relations, matrix, spanning = [[2, 4], [0, 6]], [[2], [2]], [[1, 1]]
        made = (Group(2, relations), Map(A, B, matrix), Subgroup(A, spanning))
        before = snapshot(made)
        for table in (relations, matrix, spanning):
            table[0][0] = 99
            table.append([7])
        self.assertEqual(snapshot(made), before)
