"""Holes, and bounds from which on they stay: points [3] and [7], and [1] (b)."""

import itertools
import math
import unittest

from quickexact import exact
from quickexact import holes as own
from tests import helpers

GREAT = 10 ** 40

# A width of 4,000, just, or nearly; coefficients and bounds as great as they may be.
WIDE = (
    ((60, -6), (60, 60)), ((50, 30), (50, 50)), ((-40, 60), (40, 40)), ((59, 7), (60, 60)), ((60, -59), (33, 34)),
    ((13, -17, 19, 23), (60, 60, 60, 46)), ((60, 59, 58, 57, -56, 55), (11, 11, 11, 12, 12, 12)),
    ((10, -12, 14, 16, 18, -20), (44, 44, 44, 45, 45, 44)), ((1, 60), (1, 60)), ((-60,), (60,)), ((1,) * 6, (60,) * 6),
)

# For stays_settled and its companions: at most 3 coefficients from -9 to 9.
FEW = (
    (), (1,), (-9,), (1, 3), (-3, 2), (3, 5), (5, -3), (4, 6), (-6, -4), (3, 3), (2, -2), (5, 4), (1, 9), (6, 9), (-5, 2),
)
THREE = ((1, 2, 4), (3, 4, 5), (-3, 4, 5), (2, 2, 3), (2, -4, 5), (3, 3, -3), (4, 6, 5), (6, -2, 4), (1, 1, 5))
GREATEST = (
    (8, 9), (-9, 8), (7, 9), (9, 8, 7), (9, 9, 8), (-8, 8, 9), (7, -8, 9), (9, 6, 8), (9, 9, 9), (1, 9, -9), (5, 7, 9),
    (6, 9, 4), (2, 9, 9), (3, -8, 9), (1, 1, 9),
)


def hole_cases():
    yield from helpers.small_cases()
    # Bounds that are great for one of them, and small for the other.
    for coefficients in ((3, 5), (-3, 5), (4, -7), (6, 9), (2, 9), (5, 7, -8), (4, 6, 9)):
        for bounds in itertools.product((1, 2, 7), repeat=len(coefficients)):
            yield coefficients, bounds


def is_settled_by_walk(coefficients, bounds):
    """As [3] tells it: each number that the test lets is a sum exactly if both ways are HEAPS."""
    found = helpers.walked_sums(coefficients, bounds)
    least, greatest = min(found), max(found)
    is_heap = helpers.walked_heaps(coefficients, greatest - least)
    common = max(1, math.gcd(*coefficients))
    return all((number in found) == (is_heap[number - least] and is_heap[greatest - number])
               for number in range(least, greatest + 1, common))


def settled_box(coefficients, most):
    """A dict of all BOUNDS to most: whether they are settled, by a walk."""
    rows = itertools.product(range(1, most + 1), repeat=len(coefficients))
    return {bounds: is_settled_by_walk(coefficients, bounds) for bounds in rows}


def above(box, bounds):
    """Those of the box of which none is less."""
    return [others for others in box if all(other >= bound for other, bound in zip(others, bounds))]


class Holes(unittest.TestCase):
    def test_beside_a_walk(self):
        for coefficients, bounds in hole_cases():
            holes = helpers.walked_holes(coefficients, bounds)
            self.assertEqual(own.holes(coefficients, bounds), holes, (coefficients, bounds))
            self.assertEqual(own.how_many_holes(coefficients, bounds), len(holes))
            found = helpers.walked_sums(coefficients, bounds)
            for number in (*range(min(found) - 3, max(found) + 4), GREAT, -GREAT):
                self.assertIs(own.is_hole(coefficients, bounds, number), number in holes)

    def test_beside_exactness(self):
        for coefficients, bounds in hole_cases():
            holes = own.holes(coefficients, bounds)
            self.assertIs(exact.is_exact(coefficients, bounds), holes == [])
            self.assertEqual(exact.first_hole(coefficients, bounds), holes[0] if holes else None)
            self.assertEqual(exact.last_hole(coefficients, bounds), holes[-1] if holes else None)

    def test_in_the_same_way_from_either_end(self):
        for coefficients, bounds in hole_cases():
            found = helpers.walked_sums(coefficients, bounds)
            holes = own.holes(coefficients, bounds)
            self.assertEqual(sorted(min(found) + max(found) - hole for hole in holes), holes)

    def test_parting_beside_a_walk(self):
        for coefficients, bounds in hole_cases():
            parting = helpers.walked_parting(coefficients, bounds)
            self.assertEqual(own.parting_holes(coefficients, bounds), parting, (coefficients, bounds))
            self.assertIs(own.is_settled(coefficients, bounds), parting == [])
            self.assertIs(own.is_settled(coefficients, bounds), is_settled_by_walk(coefficients, bounds))

    def test_holes_from_ends_beside_a_walk(self):
        for coefficients, bounds in hole_cases():
            holes = helpers.walked_holes(coefficients, bounds)
            found = helpers.walked_sums(coefficients, bounds)
            gaps = helpers.walked_gaps(coefficients)
            low = tuple(hole for hole in holes if hole - min(found) in gaps)
            high = tuple(hole for hole in holes if max(found) - hole in gaps)
            self.assertEqual(own.holes_from_ends(coefficients, bounds), (low, high))
            self.assertEqual(sorted({*low, *high, *own.parting_holes(coefficients, bounds)}), holes)

    def test_nothing_and_one(self):
        self.assertEqual(own.holes((), ()), [])
        self.assertEqual(own.how_many_holes((), ()), 0)
        self.assertEqual([own.is_hole((), (), number) for number in (-1, 0, 1, GREAT)], [False] * 4)
        self.assertEqual(own.parting_holes((), ()), [])
        self.assertIs(own.is_settled((), ()), True)
        self.assertEqual(own.holes_from_ends((), ()), ((), ()))
        for one in (-60, -7, -1, 1, 7, 60):
            self.assertEqual(own.holes((one,), (60,)), [])
            self.assertIs(own.is_settled((one,), (60,)), True)
            self.assertIs(own.is_hole((one,), (60,), 2 * one), False)
            self.assertIs(own.is_hole((one,), (60,), 2 * one + 1), False)

    def test_as_wide_as_can_be(self):
        for coefficients, bounds in WIDE:
            found = helpers.walked_sums(coefficients, bounds)
            least, greatest = min(found), max(found)
            self.assertLessEqual(greatest - least, 4000)
            common = math.gcd(*coefficients)
            holes = [number for number in range(least, greatest + 1, common) if number not in found]
            parting = helpers.walked_parting(coefficients, bounds)
            gaps = helpers.walked_gaps(coefficients)
            ends = (tuple(hole for hole in holes if hole - least in gaps),
                    tuple(hole for hole in holes if greatest - hole in gaps))
            self.assertEqual(helpers.quickly(self, own.holes, coefficients, bounds), holes)
            self.assertEqual(helpers.quickly(self, own.how_many_holes, coefficients, bounds), len(holes))
            self.assertEqual(helpers.quickly(self, own.parting_holes, coefficients, bounds), parting)
            self.assertIs(helpers.quickly(self, own.is_settled, coefficients, bounds), parting == [])
            self.assertEqual(helpers.quickly(self, own.holes_from_ends, coefficients, bounds), ends)
            for number in (least, least + common, greatest - common, greatest, greatest + common, least - common):
                told = helpers.quickly(self, own.is_hole, coefficients, bounds, number)
                self.assertIs(told, number in holes)

    def test_a_width_of_just_4000(self):
        self.assertEqual(own.holes((50, 30), (50, 50)), helpers.walked_holes((50, 30), (50, 50)))
        self.assertEqual(own.holes((-40, 60), (40, 40))[0], -1580)
        self.assertEqual(own.holes((1,), (4000,)), [])
        self.assertEqual(own.how_many_holes((1, 2), (3998, 1)), 0)


class AtLast(unittest.TestCase):
    """sure_width and holes_at_last, and [1] (b)."""

    def test_beside_gaps(self):
        lists = [coefficients for coefficients, _ in helpers.small_cases()]
        for coefficients in (*lists, (60, 59), (-60, 59, 58), (60,) * 6, (60, -42, 35, 30, 21, 14)):
            gaps = helpers.walked_gaps(coefficients)
            last = max(gaps, default=-math.gcd(*coefficients))
            greatest = max([abs(one) for one in coefficients], default=0)
            self.assertEqual(own.sure_width(coefficients), 2 * last + greatest, coefficients)
            self.assertEqual(own.holes_at_last(coefficients), 2 * len(gaps))

    def test_great_ones(self):
        self.assertEqual(helpers.quickly(self, own.sure_width, (60, -59)), 2 * (60 * 59 - 119) + 60)
        self.assertEqual(helpers.quickly(self, own.holes_at_last, (60, -59)), 59 * 58)
        self.assertEqual(own.sure_width((60,)), -60)
        self.assertEqual(own.holes_at_last((60,)), 0)

    def test_the_same_few_numbers_from_either_end(self):
        for coefficients in (*FEW, *THREE, (9, 8, 7), (11, 12), (10, -15, 6)):
            gaps = helpers.walked_gaps(coefficients)
            for bound in (12, 13):
                found = helpers.walked_sums(coefficients, (bound,) * len(coefficients))
                low = tuple(min(found) + gap for gap in gaps)
                high = tuple(sorted(max(found) - gap for gap in gaps))
                bounds = (bound,) * len(coefficients)
                self.assertEqual(own.holes_from_ends(coefficients, bounds), (low, high))
                self.assertEqual(own.holes(coefficients, bounds), sorted(low + high))
                self.assertEqual(own.holes_at_last(coefficients), own.how_many_holes(coefficients, bounds))


class Staying(unittest.TestCase):
    """stays_settled, unsettled_above, is_unsettled_above and settled_from, beside all BOUNDS of a box."""

    def check(self, coefficients, most, asked):
        box = settled_box(coefficients, most)
        many = len(coefficients)
        for bounds in itertools.product(range(1, asked + 1), repeat=many):
            stays = all(box[others] for others in above(box, bounds))
            self.assertIs(own.stays_settled(coefficients, bounds), stays, (coefficients, bounds))
            told = own.unsettled_above(coefficients, bounds)
            if stays:
                self.assertIsNone(told)
            else:
                self.check_unsettled(coefficients, bounds, told)
            for others in itertools.product(range(1, asked + 2), repeat=many):
                is_told = others in above(box, bounds) and not box[others]
                self.assertIs(own.is_unsettled_above(coefficients, bounds, others), is_told)
        least = 1
        while not all(box[others] for others in above(box, (least,) * many)):
            least += 1
        self.assertEqual(own.settled_from(coefficients), least, coefficients)

    def check_unsettled(self, coefficients, bounds, told):
        self.assertIsInstance(told, tuple)
        self.assertEqual(len(told), len(coefficients))
        self.assertTrue(all(other >= bound for other, bound in zip(told, bounds)))
        self.assertLessEqual(sum(abs(one) * bound for one, bound in zip(coefficients, told)), 4000)
        self.assertNotEqual(helpers.walked_parting(coefficients, told), [])
        self.assertIs(own.is_unsettled_above(coefficients, bounds, told), True)

    def test_few(self):
        for coefficients in FEW:
            self.check(coefficients, 14, 5)

    def test_three(self):
        for coefficients in THREE:
            self.check(coefficients, 7, 3)

    def test_guarantee_of_the_sure_width(self):
        for coefficients in (*FEW, *THREE):
            box = settled_box(coefficients, 7)
            for bounds, is_settled in box.items():
                width = sum(abs(one) * bound for one, bound in zip(coefficients, bounds))
                if is_settled and width > own.sure_width(coefficients):
                    self.assertIs(all(box[others] for others in above(box, bounds)), True)
                    self.assertIs(own.stays_settled(coefficients, bounds), True)

    def test_greatest(self):
        for coefficients in GREATEST:
            many = len(coefficients)
            least = helpers.quickly(self, own.settled_from, coefficients)
            for bounds in ((1,) * many, (least,) * many, (60,) * many, (1,) * (many - 1) + (60,), (60,) + (1,) * (many - 1)):
                told = helpers.quickly(self, own.unsettled_above, coefficients, bounds)
                self.assertIs(helpers.quickly(self, own.stays_settled, coefficients, bounds), told is None)
                if told is not None:
                    self.check_unsettled(coefficients, bounds, told)
            self.assertIs(own.stays_settled(coefficients, (60,) * many), True)
            self.assertIs(own.stays_settled(coefficients, (least,) * many), True)
            if least > 1:
                self.assertIs(own.stays_settled(coefficients, (least - 1,) * many), False)

    def test_settled_from_of_all(self):
        told = {}
        for many in (1, 2, 3):
            for coefficients in itertools.combinations_with_replacement(range(1, 10), many):
                told[coefficients] = helpers.quickly(self, own.settled_from, coefficients)
        for (one, other), least in ((key, least) for key, least in told.items() if len(key) == 2):
            # Two without a common divisor: each must go as far as the other less 1.
            one, other = one // math.gcd(one, other), other // math.gcd(one, other)
            self.assertEqual(least, max(1, other - 1, one - 1), (one, other))
        for one in range(1, 10):
            self.assertEqual(told[(one,)], 1)
        for coefficients, least in told.items():
            turned = tuple((-1) ** place * one for place, one in enumerate(coefficients))[::-1]
            self.assertEqual(own.settled_from(turned), least)

    def test_unsettled_ones_tell_themselves(self):
        self.assertEqual(own.unsettled_above((1, 3), (1, 5)), (1, 5))
        self.assertEqual(own.unsettled_above([1, 3], [1, 5]), (1, 5))
        self.assertEqual(own.unsettled_above((3, 5), (60, 1)), (60, 1))
        self.assertIsNone(own.unsettled_above((), ()))
        self.assertIs(own.stays_settled((), ()), True)
        self.assertEqual(own.settled_from(()), 1)


class IsUnsettledAbove(unittest.TestCase):
    def test_things_of_all_kinds(self):
        for coefficients in ((), (1,), (1, 3), (3, 5), (2, -3), (3, 4, 5)):
            bounds = (1,) * len(coefficients)
            for thing in helpers.odd_things():
                self.assertIs(own.is_unsettled_above(coefficients, bounds, thing), False, thing)

    def test_all_but_one_thing_is_right(self):
        self.assertIs(own.is_unsettled_above((3, 5), (2, 1), (5, 1)), True)
        self.assertIs(own.is_unsettled_above([3, 5], [2, 1], (5, 1)), True)
        self.assertIs(own.is_unsettled_above((3, 5), (5, 1), (5, 1)), True)
        for bounds in ((6, 1), (5, 2), (6, 2)):
            self.assertIs(own.is_unsettled_above((3, 5), bounds, (5, 1)), False)
        for thing in ([5, 1], (5, True), (5,), (5, 1, 1), ((5, 1),), ("5", "1"), (5, None), (5, 0), (5, -1), (), None,
                      "51", 51, (4, 1)):
            self.assertIs(own.is_unsettled_above((3, 5), (2, 1), thing), False, thing)
        self.assertIs(own.is_unsettled_above((), (), ()), False)
        self.assertIs(own.is_unsettled_above((7,), (1,), (9,)), False)

    def test_width(self):
        # 1 stands still at 1, so 2 is always missed; the width is 1 and three times the other bound.
        self.assertIs(own.is_unsettled_above((1, 3), (1, 5), (1, 1333)), True)
        self.assertIs(own.is_unsettled_above((1, 3), (1, 5), (1, 1334)), False)
        self.assertIs(own.is_unsettled_above((1, 4), (1, 5), (1, 999)), True)
        self.assertIs(own.is_unsettled_above((2, -8), (2, 5), (2, 499)), True)
        self.assertIs(own.is_unsettled_above((2, -8), (2, 5), (2, 500)), False)
        self.assertIs(own.is_unsettled_above((1, 3), (1, 5), (1, GREAT)), False)
        # A width of just 4,000, and of more.
        self.assertIs(own.is_unsettled_above((4, 9), (1, 1), (1, 444)), True)
        self.assertIs(own.is_unsettled_above((1, 4), (1, 5), (1, 1000)), False)
        self.assertIs(own.is_unsettled_above((4, 9), (1, 1), (1, 445)), False)


if __name__ == "__main__":
    unittest.main()
