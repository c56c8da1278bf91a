"""The examples of the document, row by row: what is asked, and what is told or raised; those of README.md, too."""

import doctest
import os
import unittest

from tests import helpers

POINT_4 = r"""
>>> least_sum((2, -3), (1, 1)), greatest_sum((2, -3), (1, 1)), step((4, -6)), step((7,)), step(()), sum_of((2, -3), (5, 4)), greatest_sum((10 ** 40, -1), (3, 9)) == 3 * 10 ** 40
(-3, 2, 2, 7, 0, -2, True)
>>> [is_let((2, -3), (1, 1), number) for number in (-4, -3, 1, 3)], [is_let((4, -6), (1, 1), number) for number in (-6, 1, 2, 4)], is_let((), (), 0), is_let((), (), 1)
([False, True, True, False], [True, False, True, True], True, False)
>>> mirrored((2, -3), (1, 1), 0), made_plain((4, -6), (1, 2), 2), made_plain((4, -6), (1, 2), 1), made_plain((4, -6), (1, 2), -14), made_plain((), (), 0)
(-1, ((2, 3), (1, 2), 7), None, ((2, 3), (1, 2), -1), ((), (), 0))
>>> sums((2, -3), (1, 1)), sums((3, 5), (2, 1)), sums((), ()), sums_between((3, 5), (2, 1), 4, 8), sums_between((3, 5), (2, 1), 8, 4)
([-3, -1, 0, 2], [0, 3, 5, 6, 8, 11], [0], [5, 6, 8], [])
>>> is_sum((2, -3), (1, 1), 1), is_sum((2, -3), (2, 1), 1), counters_for((2, -3), (2, 1), 1), counters_for((2, -3), (1, 1), 1), counters_for((), (), 0), how_many_counters((1, 1, 2), (2, 2, 1), 2), how_many_counters((3, 5), (2, 1), 7)
(False, True, (2, 1), None, (), 4, 0)
>>> is_counters_for((1, 1, 2), (2, 2, 1), 2, (0, 0, 1)), is_counters_for((1, 1, 2), (2, 2, 1), 2, (0, 0, 2)), is_counters_for((1, 1, 2), (2, 2, 1), 2, [0, 0, 1]), is_coefficients((1, -2)), is_coefficients((1, 0)), is_coefficients([1]), is_coefficients(()), is_bounds((1, -2), (1, 1)), is_bounds((1, -2), (1, 0)), is_bounds((), ())
(True, False, False, True, False, False, True, True, False, True)
"""

POINT_5 = r"""
>>> is_exact((1, 2, 4), (1, 1, 1)), is_exact((1, 3), (1, 5)), is_exact((1, -3), (2, 5)), is_exact((4, 2), (1, 1)), is_exact((2, 3), (9, 9)), is_exact((), ())
(True, False, True, True, False, True)
>>> chain((4, -1, 2), (1, 1, 1)), chain((1, 3), (1, 5)), chain((2, -2), (1, 1)), chain((), ()), is_chain((2, -2), (1, 1), (1, 0)), is_chain((1, 3), (2, 5), (1, 0)), is_chain((1, 3), (2, 5), [0, 1])
((1, 2, 0), None, (0, 1), (), True, False, False)
>>> first_hole((1, 3), (1, 5)), last_hole((1, 3), (1, 5)), first_hole((-1, 3), (1, 5)), first_hole((2, 3), (1, 1)), first_hole((1, 2), (1, 1)), first_hole((6, 10 ** 30), (3, 1))
(2, 14, 1, 1, None, 2)
>>> whole_to((1, 3), (1, 5)), whole_to((1, -3), (2, 5)), whole_to((2, 3), (9, 9)), whole_to((), ()), whole_to((4, 2, 1, 9), (1, 1, 1, 1))
(1, 2, 0, 0, 7)
>>> exact_from((1, 3)), exact_from((1, 10, 20)), exact_from((2, 3)), exact_from((4, -2)), exact_from(())
(2, 9, None, 1, 1)
>>> bound_needed((1, 3), (1, 5), 0), bound_needed((1, 3), (1, 5), 1), bound_needed((1, 2, 9), (1, 1, 1), 1), bound_needed((1, 3), (7, 7), 1)
(2, None, 4, 1)
>>> idle_counters((1, 2, 4), (1, 1, 1)), idle_counters((1, 1, 2), (1, 1, 1)), idle_counters((5,), (1,)), idle_counters((), ())
((0, 2), (0, 1, 2), (0,), ())
>>> bound_needed((1, 3), (1, 5), 2)
raises NoCounter(place=2)
"""


class Examples(unittest.TestCase):
    def check(self, text, many):
        names = helpers.everything()
        rows = text.strip().split("\n")
        self.assertEqual(len(rows), 2 * many)
        for asked, told in zip(rows[::2], rows[1::2]):
            with self.subTest(asked=asked):
                self.assertTrue(asked.startswith(">>> "))
                self.assertEqual(helpers.outcome(asked[4:], names), told)

    def test_point_4(self):
        self.check(POINT_4, 6)

    def test_point_5(self):
        self.check(POINT_5, 8)

    def test_readme(self):
        path = os.path.join(os.path.dirname(os.path.dirname(os.path.abspath(__file__))), "README.md")
        told = doctest.testfile(path, module_relative=False)
        self.assertGreater(told.attempted, 0)
        self.assertEqual(told.failed, 0)


if __name__ == "__main__":
    unittest.main()
