"""What holds over the whole program: point [1], (a) to (d), and the files of the interface [16]."""

import itertools
import math
import os
import unittest

from quickexact import exact, heaps, holes, nests, order, several, signs, unknown
from quickexact import sums as plain
from tests import helpers


class Files(unittest.TestCase):
    def test_the_files_are_those_that_are_tested(self):
        folder = os.path.dirname(plain.__file__)
        names = sorted(name[:-3] for name in os.listdir(folder) if name.endswith(".py") and name != "__init__.py")
        self.assertEqual(names, sorted(helpers.FILES + ("things",)))


class WhenTheTestIsRight(unittest.TestCase):
    """(a)"""

    def test_each_coefficient_is_reached_by_what_lies_beneath(self):
        for coefficients, bounds in helpers.small_cases():
            common = math.gcd(*coefficients)
            reach = 0
            broken = None
            for size, bound in sorted((abs(one), bound) for one, bound in zip(coefficients, bounds)):
                if size > reach + common and broken is None:
                    broken = reach
                reach += size * bound
            errs = helpers.walked_holes(coefficients, bounds)
            self.assertIs(exact.is_exact(coefficients, bounds), broken is None)
            self.assertIs(errs == [], broken is None)
            if broken is not None:
                least = plain.least_sum(coefficients, bounds)
                self.assertEqual(exact.first_hole(coefficients, bounds), least + broken + common)
                self.assertEqual(errs[0], least + broken + common)

    def test_for_all_bounds_from_told_ones_on(self):
        for coefficients in ((1, 3), (-1, 2, 5), (4, -2), (2, 3, 7), (3, -3, 9), (1, -6, 7)):
            told = exact.exact_from(coefficients)
            for bounds in itertools.product(range(1, 8), repeat=len(coefficients)):
                is_right = helpers.walked_holes(coefficients, bounds) == []
                if told is not None and min(bounds) >= told:
                    self.assertIs(is_right, True)
                if is_right:
                    greater = tuple(bound + at for at, bound in enumerate(bounds))
                    self.assertEqual(helpers.walked_holes(coefficients, greater), [])


class TheSameFewNumbers(unittest.TestCase):
    """(b)"""

    def test_the_gaps_from_either_end(self):
        for coefficients in ((3, 5), (3, -5), (4, 6), (2, -7), (3, 4, 5), (4, -6, 9)):
            gaps = heaps.gaps(coefficients)
            least = holes.settled_from(coefficients)
            for bound in range(least, least + 3):
                bounds = tuple(bound + at % 2 for at in range(len(coefficients)))
                low, high = plain.least_sum(coefficients, bounds), plain.greatest_sum(coefficients, bounds)
                ends = {low + gap for gap in gaps} | {high - gap for gap in gaps}
                found = set(helpers.walked_holes(coefficients, bounds))
                self.assertEqual(found, {end for end in ends if plain.is_let(coefficients, bounds, end)})
                self.assertIs(holes.is_settled(coefficients, bounds), True)
            if least > 1:
                self.assertIs(holes.stays_settled(coefficients, (least - 1,) * len(coefficients)), False)


class BoundsThatNobodyKnows(unittest.TestCase):
    """(c)"""

    def test_whether_and_from_which_bounds_on(self):
        for coefficients in ((3, 5), (2, -3), (-4, -6), (6, 10, -15), (6, 10, 15)):
            for number in range(-40, 41):
                told = unknown.comes_from(coefficients, number)
                self.assertIs(unknown.comes_at_all(coefficients, number), told is not None)
                for bound in range(1, 12):
                    comes = number in helpers.walked_sums(coefficients, (bound,) * len(coefficients))
                    self.assertIs(comes, told is not None and bound >= told)

    def test_orders_of_rounds(self):
        for own, mate, number in itertools.product((-2, 0, 1, 3), (-1, 0, 2, 3), range(-5, 6)):
            one, other = ((own,), 0), ((mate,), number)
            found = {signs.signs_between(*pair) for pair in helpers.walked_pairs((("i", 14),), one, other)}
            self.assertEqual(signs.signs_at_all(one, other), sorted(found))


class SeveralCoordinates(unittest.TestCase):
    """(d)"""

    def test_what_no_quick_test_does(self):
        missed = 0
        for loops, one, other in helpers.drawn_places(200, 2, 3, 2, 951):
            first = (one, ((1, 0), 0))
            second = (other, ((0, 1), one[1] % 2))
            pairs = [pair for pair in helpers.walked_pairs(loops, one, other) if pair in
                     helpers.walked_pairs(loops, first[1], second[1])]
            self.assertIs(several.touch_all(loops, first, second), pairs != [])
            self.assertEqual(helpers.walked_pairs(loops, *several.flattened(loops, first, second)), pairs)
            missed += pairs == [] and several.tests_each(loops, first, second) == (True, True)
        self.assertGreater(missed, 3)

    def test_one_coordinate_is_a_place(self):
        for loops, one, other in helpers.drawn_places(100, 2, 3, 3, 952):
            self.assertIs(several.touch_all(loops, (one,), (other,)), nests.touch(loops, one, other))
            self.assertEqual(several.how_many_together(loops, (one,), (other,)), nests.how_many_touchings(loops, one, other))
            coefficients, bounds, number = nests.equation_of(loops, one, other)
            told = order.verdict(coefficients, bounds, number)[1]
            self.assertEqual(told, "yes" if nests.touch(loops, one, other) else "no")
            self.assertIs(signs.all_signs(loops, one, other) != [], nests.touch(loops, one, other))


if __name__ == "__main__":
    unittest.main()
