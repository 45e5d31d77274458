import doctest
import unittest

# The examples as they stand in the document.
EXAMPLES = """
>>> from oftenenough.gaps import least_gap, tight
>>> from oftenenough.papers import check_plan, plan_paper, shortest_round
>>> from oftenenough.parts import best_base, day_by, folded_parts
>>> from oftenenough.plans import share_of
>>> from oftenenough.standings import does_last, least_standings, longest
>>> share_of((1, (2, 3, 6)))
(1, 1)
>>> does_last((1, (2, 3, 6))), does_last((1, (2, 4, 4)))
(False, True)
>>> len(shortest_round((1, (2, 4, 4))))
4
>>> check_plan((1, (2, 3, 12)), plan_paper((1, (2, 3, 12))))
'lost'
>>> least_gap((1, (2, 5, 9)), 2), least_gap((1, (2, 3, 9)), 2)
(4, None)
>>> tight((1, (2, 4, 5)))
(0, 1)
>>> least_standings((1, (2, 2)))
((1, 2), (2, 1))
>>> longest((1, (2, 2)), (1, 1))
0
>>> plan = (1, (10 ** 30, 2 * 10 ** 29, 3))
>>> best_base(plan)
3
>>> day_by(plan, folded_parts(plan), 10 ** 30) in ((), (0,), (1,), (2,))
True
"""


class Examples(unittest.TestCase):
    def test_they_hold(self):
        examples = doctest.DocTestParser().get_doctest(EXAMPLES, {}, "examples", None, 0)
        self.assertEqual(len(examples.examples), 16)
        self.assertEqual(doctest.DocTestRunner(verbose=False).run(examples).failed, 0)
