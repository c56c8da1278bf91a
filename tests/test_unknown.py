"""Bounds that nobody knows: points [3] and [8], and [1] (c)."""

import itertools
import math
import unittest

from quickexact import heaps
from quickexact import unknown as own
from quickexact.errors import NoCounter
from tests import helpers

GREAT = 10 ** 40

# As great as [8] lets them be where they are small.
GREATEST = (
    (60,), (-1,), (1, -1), (60, -59), (-60, 59), (59, 60), (-59, -60), (1, 1, 1, 1, 1, 1), (1, -60, -60, -60, -60, -60),
    (60, 59, 58, 57, 56, 55), (-60, 59, -58, 57, -56, 55), (60, -59, 53, -47, 31, -29), (31, 37, 41, 43, 47, 53),
    (32, -16, 8, -4, 2, -1), (60, 60, 60, -60, -60, -60), (60, 42, -30), (-37, -41, -43), (20, -30, 50, 10, -60, 40),
)


def unknown_cases():
    """Many small COEFFICIENTS, () ahead of all; of those of one sign more than chance brings."""
    yield ()
    for one in helpers.sizes_to(5):
        yield (one,)
    yield from itertools.product((-6, -4, -3, 2, 3, 5), repeat=2)
    for many, seed in ((3, 201), (4, 202)):
        for coefficients, _ in helpers.drawn_cases(40, many, 7, 1, seed):
            yield coefficients
            yield tuple(abs(one) for one in coefficients)
            yield tuple(-2 * abs(one) for one in coefficients)
    yield from ((6, 10, 15), (-6, -10, -15), (6, -10, 15), (4, -6, 10), (3, 5, 7), (1, -1, 1, -1, 1, -1))


def comes_at_all_by_words(coefficients, number):
    """By the step, the signs and the HEAPS, as the guarantee tells."""
    if any(one > 0 for one in coefficients) and any(one < 0 for one in coefficients):
        return number % math.gcd(*coefficients) == 0
    if number == 0:
        return True
    if not all((one > 0) == (number > 0) for one in coefficients):
        return False
    return helpers.walked_heaps(coefficients, abs(number))[abs(number)]


def first_bound(coefficients, number, most):
    """The least bound of all counters, from 1 to most, with which the number comes, by a walk; None if there is none."""
    for bound in range(1, most + 1):
        if number in helpers.walked_sums(coefficients, (bound,) * len(coefficients)):
            return bound
    return None


class AtAll(unittest.TestCase):
    def test_beside_a_walk(self):
        for coefficients in unknown_cases():
            if len(coefficients) <= 3:
                found = helpers.walked_sums(coefficients, (24,) * len(coefficients))
                for number in range(-24, 25):
                    self.assertIs(own.comes_at_all(coefficients, number), number in found, (coefficients, number))

    def test_beside_step_signs_and_heaps(self):
        for coefficients in unknown_cases():
            for number in range(-60, 61):
                told = comes_at_all_by_words(coefficients, number)
                self.assertIs(own.comes_at_all(coefficients, number), told, (coefficients, number))

    def test_great_ones(self):
        self.assertIs(own.comes_at_all((200, 199), 39401), False)
        self.assertIs(own.comes_at_all((200, 199), 39402), True)
        self.assertIs(own.comes_at_all((-200, -199), -39401), False)
        self.assertIs(own.comes_at_all((-200, -199), -39402), True)
        self.assertIs(own.comes_at_all((-200, -199), 39402), False)
        self.assertIs(own.comes_at_all((200, -199), 1), True)
        self.assertIs(own.comes_at_all((200, -198), 1), False)
        for number in (GREAT, -GREAT):
            self.assertIs(own.comes_at_all((200, -199), number), True)
            self.assertIs(own.comes_at_all((200, 199), number), number > 0)
            self.assertIs(own.comes_at_all((-200, -199), number), number < 0)
            self.assertIs(own.comes_at_all((6, -3), number), False)
            self.assertIs(own.comes_at_all((), number), False)
            self.assertIs(helpers.quickly(self, own.comes_at_all, (-200, 199, 198, 197, 196, 195), number), True)


class WhyNever(unittest.TestCase):
    def test_beside_its_words(self):
        told = {}
        for coefficients in unknown_cases():
            common = math.gcd(*coefficients)
            for number in range(-40, 41):
                if (number % common if common else number) != 0:
                    why = "step"
                elif comes_at_all_by_words(coefficients, number):
                    why = None
                elif all(one > 0 for one in coefficients) and number < 0:
                    why = "sign"
                elif all(one < 0 for one in coefficients) and number > 0:
                    why = "sign"
                else:
                    why = "gap"
                self.assertEqual(own.why_never(coefficients, number), why, (coefficients, number))
                told[why] = told.get(why, 0) + 1
        self.assertGreater(min(told.values()), 100)
        self.assertEqual(len(told), 4)

    def test_great_ones(self):
        self.assertEqual(own.why_never((200, 198), GREAT + 1), "step")
        self.assertEqual(own.why_never((200, 198), -GREAT), "sign")
        self.assertEqual(own.why_never((-200, -198), GREAT), "sign")
        self.assertEqual(own.why_never((-200, -199), -39401), "gap")
        self.assertEqual(own.why_never((200, 199), 39401), "gap")
        self.assertIsNone(own.why_never((200, 198), GREAT))
        self.assertIsNone(own.why_never((200, -198), -GREAT))
        self.assertEqual([own.why_never((), number) for number in (-GREAT, -1, 0, 1)], ["step", "step", None, "step"])


class From(unittest.TestCase):
    """comes_from, shown_by and is_shown_by."""

    def check_shown(self, coefficients, number, least):
        told = own.shown_by(coefficients, number)
        if least is None:
            self.assertIsNone(told)
            return
        self.assertIsInstance(told, tuple)
        self.assertEqual(len(told), len(coefficients))
        self.assertTrue(all(0 <= counter <= least for counter in told))
        self.assertEqual(sum(one * counter for one, counter in zip(coefficients, told)), number)
        self.assertIs(own.is_shown_by(coefficients, number, told), True)

    def test_beside_a_walk(self):
        for coefficients in unknown_cases():
            for number in range(-20, 21):
                least = own.comes_from(coefficients, number)
                # What comes at all comes here with bounds to 20, and a number that never comes not at all.
                self.assertEqual(least, first_bound(coefficients, number, least or 7), (coefficients, number))
                self.assertIs(least is not None, comes_at_all_by_words(coefficients, number))
                self.check_shown(coefficients, number, least)

    def test_greater_bounds_do_too(self):
        for coefficients in unknown_cases():
            if len(coefficients) <= 2:
                for number in range(-12, 13):
                    least = own.comes_from(coefficients, number)
                    for more in itertools.product((0, 1, 3), repeat=len(coefficients)):
                        bounds = tuple((least or 5) + one for one in more)
                        found = helpers.walked_sums(coefficients, bounds)
                        self.assertIs(number in found, least is not None)

    def test_as_great_as_can_be(self):
        for coefficients in GREATEST:
            for number in (4000, -4000, 3999, -3999, 2021, 0):
                least = helpers.quickly(self, own.comes_from, coefficients, number)
                helpers.quickly(self, own.shown_by, coefficients, number)
                self.assertIs(least is not None, comes_at_all_by_words(coefficients, number))
                self.check_shown(coefficients, number, least)
                # Walks as wide as these take long: those that are not, tell that less does not do.
                if least is not None and 1 < least < 90:
                    bounds = (least - 1,) * len(coefficients)
                    self.assertNotIn(number, helpers.walked_sums(coefficients, bounds))

    def test_told_ones(self):
        self.assertEqual(own.comes_from((1, -1), 4000), 4000)
        self.assertEqual(own.comes_from((1, -1), -4000), 4000)
        self.assertEqual(own.shown_by((1, -1), -4000), (0, 4000))
        self.assertEqual(own.comes_from((1, -60, -60, -60, -60, -60), 4000), 4000)
        self.assertEqual(own.comes_from((-1, 60, 60, 60, 60, 60), -3940), 3940)
        self.assertEqual(own.comes_from((1,) * 6, 4000), 667)
        self.assertEqual(own.comes_from((1,) * 6, 3996), 666)
        self.assertEqual(own.comes_from((60, -59), 1), 1)
        self.assertEqual(own.comes_from((60, -59), 59), 59)
        self.assertEqual(own.comes_from((60, -59), -1), 59)
        self.assertEqual(own.comes_from((60, 59), 60 * 59 - 119 + 1), 58)
        self.assertIsNone(own.comes_from((60, 59), 60 * 59 - 119))
        self.assertIsNone(own.comes_from((60, -40), 3990))
        for coefficients in ((), (3,), (-3, 5), (2, 4)):
            self.assertEqual(own.comes_from(coefficients, 0), 1)
            self.check_shown(coefficients, 0, 1)
        self.assertIsNone(own.comes_from((), 1))
        self.assertEqual(own.shown_by((), 0), ())
        self.assertIsNone(own.shown_by((), -4000))
        self.assertIsNone(own.comes_from((7,), -7))
        self.assertEqual(own.comes_from((-7,), -21), 3)

    def test_is_shown_by_beside_trying_all(self):
        for coefficients in ((2, -3), (1, 1), (3, 5), (-2, -4), (1, -1), (1, 2)):
            for number in range(-9, 10):
                least = own.comes_from(coefficients, number)
                for thing in itertools.product(range(-1, 8), repeat=2):
                    is_told = least is not None and all(0 <= one <= least for one in thing)
                    is_told = is_told and coefficients[0] * thing[0] + coefficients[1] * thing[1] == number
                    self.assertIs(own.is_shown_by(coefficients, number, thing), is_told)

    def test_things_of_all_kinds(self):
        for coefficients in ((), (1,), (1, 1), (1, -2), (2, 4), (1, 2, 3)):
            for number in (-1, 0, 1, 2, 3, 6):
                for thing in helpers.odd_things():
                    self.assertIs(own.is_shown_by(coefficients, number, thing), False, thing)

    def test_all_but_one_thing_is_right(self):
        self.assertIs(own.is_shown_by((2, -3), 1, (2, 1)), True)
        self.assertIs(own.is_shown_by([2, -3], 1, (2, 1)), True)
        for thing in ([2, 1], (2, True), (2,), (2, 1, 0), ((2, 1),), ("2", "1"), (2, None), (5, 3), (-1, -1), (), None,
                      "21", 21, (2 + 3 * GREAT, 1 + 2 * GREAT)):
            self.assertIs(own.is_shown_by((2, -3), 1, thing), False, thing)
        self.assertIs(own.is_shown_by((), 0, ()), True)
        self.assertIs(own.is_shown_by((), 0, []), False)
        self.assertIs(own.is_shown_by((), 1, ()), False)
        self.assertIs(own.is_shown_by((3, 5), 7, (4, -1)), False)
        self.assertIs(own.is_shown_by((1, -1), 4000, (4000, 0)), True)
        self.assertIs(own.is_shown_by((1, -1), 4000, (4001, 1)), False)


class With(unittest.TestCase):
    def test_beside_a_walk(self):
        for coefficients, bounds in itertools.chain(helpers.cases_of(1, 4, 2), helpers.cases_of(2, 5, 2),
                                                    helpers.drawn_cases(60, 3, 7, 3, 211),
                                                    helpers.drawn_cases(20, 4, 7, 2, 212)):
            for place in range(len(coefficients)):
                least = {}
                for bound in range(1, 31):
                    changed = bounds[:place] + (bound,) + bounds[place + 1:]
                    for number in helpers.walked_sums(coefficients, changed):
                        least.setdefault(number, bound)
                for number in range(-29, 30):
                    told = own.comes_with(coefficients, bounds, place, number)
                    self.assertEqual(told, least.get(number), (coefficients, bounds, place, number))

    def test_great_numbers(self):
        for number in (GREAT, -GREAT, GREAT + 1, 1 - GREAT):
            for coefficients, bounds in (((7, -3), (2, 3)), ((-7, 3, 11), (2, 3, 1)), ((60, 6), (60, 60)), ((1,), (9,))):
                for place, one in enumerate(coefficients):
                    told = own.comes_with(coefficients, bounds, place, number)
                    left = helpers.walked_sums(coefficients[:place] + coefficients[place + 1:],
                                               bounds[:place] + bounds[place + 1:])
                    found = [(number - total) // one for total in left if (number - total) % one == 0]
                    found = [count for count in found if count >= 0]
                    self.assertEqual(told, min(found) if found else None)

    def test_what_is_told_is_passed_in_again(self):
        bound = own.comes_with((2, -3), (1, 1), 1, -GREAT)
        self.assertEqual(own.comes_with((2, -3), (1, bound), 1, -GREAT), bound)
        self.assertEqual(own.comes_with((2, -3), [1, bound], 1, -GREAT), bound)

    def test_as_wide_as_can_be(self):
        for coefficients, bounds in (((50, 30), (50, 50)), ((60, 59, 58, 57, -56, 55), (11, 11, 11, 12, 12, 12)),
                                     ((10, -12, 14, 16, 18, -20), (44, 44, 44, 45, 45, 44))):
            for place, number in itertools.product(range(len(coefficients)), (4000, -4000, 0, 3998, 7)):
                told = helpers.quickly(self, own.comes_with, coefficients, bounds, place, number)
                if told is not None:
                    changed = bounds[:place] + (told,) + bounds[place + 1:]
                    self.assertIn(number, helpers.walked_sums(coefficients, changed))
                    if told > 1:
                        changed = bounds[:place] + (told - 1,) + bounds[place + 1:]
                        self.assertNotIn(number, helpers.walked_sums(coefficients, changed))

    def test_places_that_no_counter_has(self):
        for coefficients, bounds in (((), ()), ((3,), (1,)), ((3, 5), (1, 1)), ([3, 5], [1, 1]), ((3, 5), ()), ((0,), (0,))):
            many = len(coefficients)
            for place in (-GREAT, -many - 1, -many, -1, many, many + 1, GREAT):
                for number in (0, 1, -GREAT):
                    if not 0 <= place < many:
                        with self.assertRaises(NoCounter) as caught:
                            own.comes_with(coefficients, bounds, place, number)
                        self.assertEqual(vars(caught.exception), {"place": place})


class Missed(unittest.TestCase):
    """missed_for_ever, lasting_holes and passing_holes."""

    def test_missed_beside_step_signs_and_heaps(self):
        for coefficients in unknown_cases():
            common = math.gcd(*coefficients)
            missed = [number for number in range(-30, 31)
                      if (number % common if common else number) == 0 and not comes_at_all_by_words(coefficients, number)]
            for low, high in ((-30, 30), (0, 30), (-30, 0), (-7, 13), (4, 4), (7, 7), (-2, -2), (5, 4), (30, -30)):
                told = own.missed_for_ever(coefficients, low, high)
                self.assertEqual(told, [number for number in missed if low <= number <= high], (coefficients, low, high))

    def test_missed_as_far_as_can_be(self):
        for coefficients in GREATEST:
            common = math.gcd(*coefficients)
            gaps = helpers.walked_gaps(coefficients)
            sides = [one > 0 for one in coefficients]
            missed = []
            if all(sides):
                missed = [*range(-4000 // common * common, 0, common), *gaps]
            elif not any(sides):
                missed = [*[-gap for gap in gaps], *range(common, 4001, common)]
            told = helpers.quickly(self, own.missed_for_ever, coefficients, -4000, 4000)
            self.assertEqual(told, sorted(number for number in missed if -4000 <= number <= 4000))

    def test_holes_beside_a_walk(self):
        for coefficients, bounds in helpers.small_cases():
            holes = helpers.walked_holes(coefficients, bounds)
            lasting = [hole for hole in holes if not comes_at_all_by_words(coefficients, hole)]
            self.assertEqual(own.lasting_holes(coefficients, bounds), lasting, (coefficients, bounds))
            passing = [hole for hole in holes if hole not in lasting]
            self.assertEqual(own.passing_holes(coefficients, bounds), passing)

    def test_lasting_holes_are_gaps_and_others_pass(self):
        for coefficients, bounds in helpers.drawn_cases(150, 2, 8, 4, 221):
            for hole in own.lasting_holes(coefficients, bounds):
                self.assertIn(abs(hole), heaps.gaps(coefficients))
                self.assertIsNone(own.comes_from(coefficients, hole))
                self.assertEqual(own.why_never(coefficients, hole), "gap")
            for hole in own.passing_holes(coefficients, bounds):
                least = own.comes_from(coefficients, hole)
                self.assertIn(hole, helpers.walked_sums(coefficients, (least,) * 2))

    def test_holes_as_wide_as_can_be(self):
        for coefficients, bounds in (((60, 59), (33, 34)), ((60, -59), (33, 34)), ((-50, -30), (50, 50)),
                                     ((60, 59, 58, 57, 56, 55), (11, 11, 11, 12, 12, 12))):
            lasting = helpers.quickly(self, own.lasting_holes, coefficients, bounds)
            passing = helpers.quickly(self, own.passing_holes, coefficients, bounds)
            found = helpers.walked_sums(coefficients, bounds)
            holes = [number for number in range(min(found), max(found) + 1, math.gcd(*coefficients))
                     if number not in found]
            self.assertEqual(sorted(lasting + passing), holes)
            never = {} if min(coefficients) < 0 < max(coefficients) else helpers.walked_gaps(coefficients)
            self.assertEqual(lasting, [hole for hole in holes if abs(hole) in never])

    def test_nothing(self):
        self.assertEqual(own.missed_for_ever((), -4000, 4000), [])
        self.assertEqual(own.lasting_holes((), ()), [])
        self.assertEqual(own.passing_holes((), ()), [])


class LeastBounds(unittest.TestCase):
    def by_walk(self, coefficients, number, most):
        rows = list(itertools.product(range(1, most + 1), repeat=len(coefficients)))
        coming = [bounds for bounds in rows if number in helpers.walked_sums(coefficients, bounds)]
        return [bounds for bounds in coming
                if not any(other != bounds and all(one <= two for one, two in zip(other, bounds)) for other in coming)]

    def test_beside_a_walk(self):
        lists = [coefficients for coefficients in unknown_cases() if len(coefficients) <= 2]
        for coefficients in lists:
            for number in (-12, -7, -1, 0, 1, 4, 10, 12, 23):
                for most in (1, 4, 5):
                    told = own.least_bounds_for(coefficients, number, most)
                    self.assertEqual(told, self.by_walk(coefficients, number, most), (coefficients, number, most))
        for coefficients in ((2, 3, 5), (1, 1, 1), (-2, 3, 4), (2, -2, 1), (4, 6, -2)):
            for number in (-6, 0, 6, 9, 12):
                self.assertEqual(own.least_bounds_for(coefficients, number, 3), self.by_walk(coefficients, number, 3))
        for coefficients in ((1, -1, 2, 2), (2, 3, 5, -4)):
            for number in (0, 5, 8):
                self.assertEqual(own.least_bounds_for(coefficients, number, 2), self.by_walk(coefficients, number, 2))

    def test_as_many_as_can_be(self):
        # All that make 18 with counters to 9, each of them from 1 where it would be 0.
        told = helpers.quickly(self, own.least_bounds_for, (1, 1, 1, 1), 18, 9)
        expected = [bounds for bounds in itertools.product(range(1, 10), repeat=4) if sum(bounds) == 18]
        self.assertEqual(told, expected)
        for coefficients in ((60, -59, 58, -57), (1, -1, 1, -1), (9, 8, 7, 6), (-60, -60, -60, -60)):
            for number in (0, 3, 100, -540, GREAT, -GREAT):
                told = helpers.quickly(self, own.least_bounds_for, coefficients, number, 9)
                for bounds in told[::7]:
                    self.assertIn(number, helpers.walked_sums(coefficients, bounds))
                    for place, bound in enumerate(bounds):
                        if bound > 1:
                            less = bounds[:place] + (bound - 1,) + bounds[place + 1:]
                            self.assertNotIn(number, helpers.walked_sums(coefficients, less))

    def test_nothing_and_one(self):
        self.assertEqual(own.least_bounds_for((), 0, 9), [()])
        self.assertEqual(own.least_bounds_for((), 1, 9), [])
        self.assertEqual(own.least_bounds_for((7,), 0, 9), [(1,)])
        self.assertEqual(own.least_bounds_for((-7,), -63, 9), [(9,)])
        self.assertEqual(own.least_bounds_for((-7,), -63, 8), [])
        self.assertEqual(own.least_bounds_for((-7,), 63, 9), [])


if __name__ == "__main__":
    unittest.main()
