"""The examples of the interface, as they stand in the document."""

import doctest
import unittest

EXAMPLES = {
    "smith": """
>>> from cyclebounds.rows import rest, span
>>> span(((2, 4), (3, 1)), 2)
((1, 7), (0, 10))

>>> rest(((1, 7), (0, 10)), (2, 3))
(0, 9)

>>> from cyclebounds.rows import solve
>>> solve(((2, 0), (0, 3)), 2, (4, 3))
(2, 1)

>>> from cyclebounds.smith import bar
>>> bar(((2, 0), (0, 3)), 2, (4, 3)) is None
True

>>> from cyclebounds.smith import divisors
>>> divisors(((2, 0), (0, 3)), 2)
(1, 6)
""",
    "subgroup": """
>>> from cyclebounds.group import Group
>>> g = Group(2, ((2, 4), (0, 6)))
>>> g.relations
((2, 4), (0, 6))

>>> g.invariants()
((2, 6), 0)

>>> str(g)
'2: 2 4, 0 6'

>>> from cyclebounds.group import Group
>>> Group(2, ((2, 4), (0, 6))).normal((3, 0))
(1, 2)

>>> from cyclebounds.group import cyclic_group
>>> from cyclebounds.subgroup import Subgroup
>>> Subgroup(cyclic_group(0), [(4,), (6,)]).index()
2
""",
    "exact": """
>>> from cyclebounds.group import cyclic_group
>>> from cyclebounds.maps import Map
>>> f = Map(cyclic_group(4), cyclic_group(6), ((3,),))
>>> f.value((3,))
(3,)

>>> f.kernel().rows
((2,),)

>>> f.image().index()
3

>>> from cyclebounds.exact import lifted
>>> from cyclebounds.group import cyclic_group
>>> from cyclebounds.maps import Map, identity_map
>>> two = cyclic_group(2)
>>> lifted(identity_map(two), Map(cyclic_group(0), two, ((1,),))) is None
True
""",
    "tensor": """
>>> from cyclebounds.group import cyclic_group
>>> from cyclebounds.tensor import tensor_group
>>> tensor_group(cyclic_group(4), cyclic_group(6)).invariants()
((2,), 0)

>>> from cyclebounds.group import cyclic_group
>>> from cyclebounds.tensor import tor_group, tor_into
>>> tor_group(cyclic_group(4), cyclic_group(6)).relations
((2,),)

>>> tor_into(cyclic_group(4), cyclic_group(6)).matrix
((3,),)

>>> from cyclebounds.group import cyclic_group
>>> from cyclebounds.tensor import hom_of
>>> hom_of(cyclic_group(4), cyclic_group(6), (1,)).value((1,))
(3,)
""",
    "sixes": """
>>> from cyclebounds.ext import ext_class, ext_group, extension_of
>>> from cyclebounds.group import cyclic_group
>>> ext_group(cyclic_group(4), cyclic_group(6)).order()
2

>>> x = extension_of(cyclic_group(2), cyclic_group(2), (1,))
>>> x.middle().invariants()
((4,), 0)

>>> ext_class(x)
(1,)

>>> from cyclebounds.ext import middles
>>> from cyclebounds.group import cyclic_group
>>> middles(cyclic_group(3), cyclic_group(3))
((((3, 3), 0), 1), (((9,), 0), 2))
""",
    "standard": """
>>> from cyclebounds.complexes import Complex
>>> from cyclebounds.homology import homology
>>> c = Complex(0, (1, 1, 1), (((0,),), ((2,),)))
>>> homology(c, 1).invariants()
((2,), 0)

>>> from cyclebounds.standard import pieces
>>> pieces(c)
((0, 0), (1, 2))

>>> str(c)
'0: 1 1 1; 0; 2'
""",
    "classes": """
>>> from cyclebounds.chain import ChainMap, zero_chain
>>> from cyclebounds.complexes import Complex
>>> from cyclebounds.homotopy import homotopy
>>> c = Complex(0, (1, 1), (((2,),),))
>>> f = ChainMap(c, c, (((2,),), ((2,),)))
>>> homotopy(f, zero_chain(c, c))
(((1,),), ((),))

>>> from cyclebounds.chain import ChainMap, zero_chain
>>> from cyclebounds.complexes import Complex
>>> from cyclebounds.homotopy import homotopy
>>> c, d = Complex(0, (1, 1), (((2,),),)), Complex(1, (1,), ())
>>> homotopy(ChainMap(c, d, (((),), ((1,),))), zero_chain(c, d)) is None
True
""",
    "pages": """
>>> from cyclebounds.complexes import Complex
>>> from cyclebounds.filtered import Filtered
>>> from cyclebounds.pages import page, page_map
>>> f = Filtered(Complex(0, (1, 1), (((2,),),)), ((0,), (2,)))
>>> page_map(f, 2, 2, 1).matrix
((2,),)

>>> page(f, 3, 0, 0).relations
((2,),)

>>> f.steady()
3
""",
    "console": """
>>> from cyclebounds.console import Console
>>> console = Console()
>>> console.enter("let c = 0: 1 1; 2").text
'0: 1 1; 2'

>>> console.enter("map f c c = 2; 2").kind
'map'

>>> console.enter("minus z f f").text
'0; 0'

>>> console.enter("homotopic f z").text
'yes'

>>> console.enter("homology c 0").text
'2; 0'
""",
}


class Examples(unittest.TestCase):
    def test_examples(self):
        for name, text in EXAMPLES.items():
            test = doctest.DocTestParser().get_doctest(text, {}, name, None, None)
            self.assertTrue(test.examples)
            report = []
            result = doctest.DocTestRunner(verbose=False).run(test, out=report.append)
            self.assertEqual(result.failed, 0, "".join(report))
