"""Sums and the test: points [3] and [4]."""

import math
import unittest

from quickexact import sums as own
from tests import helpers

GREAT = 10 ** 40


class Kinds(unittest.TestCase):
    """is_coefficients, is_bounds and is_counters_for, with things of all kinds."""

    def test_coefficients(self):
        for thing in ((), (1,), (-1,), (1, -2), (5, 5, 5), (1,) * 6, (GREAT ** 3, -GREAT ** 3), (2, 3, 4, 5, 6, -7)):
            self.assertIs(own.is_coefficients(thing), True, thing)
        for thing in ((0,), (1, 0), (0, 1), (1,) * 7, (1,) * 100, [], [1], [1, -2], (1, 2.0), (1,) * 5 + (0,)):
            self.assertIs(own.is_coefficients(thing), False, thing)

    def test_no_odd_thing_is_coefficients(self):
        for thing in helpers.odd_things():
            self.assertIs(own.is_coefficients(thing), False, thing)

    def test_bounds(self):
        self.assertIs(own.is_bounds((), ()), True)
        for coefficients in ((1, -2), [1, -2], (GREAT, -GREAT)):
            for thing in ((1, 1), (60, 61), (GREAT ** 2, 1)):
                self.assertIs(own.is_bounds(coefficients, thing), True, thing)
            for thing in ((), (1,), (1, 1, 1), (0, 1), (1, 0), (-1, 1), (1, -GREAT), [1, 1], ((1, 1),)):
                self.assertIs(own.is_bounds(coefficients, thing), False, thing)
        self.assertIs(own.is_bounds((), (1,)), False)
        self.assertIs(own.is_bounds((), []), False)
        self.assertIs(own.is_bounds((3,), ()), False)

    def test_no_odd_thing_is_bounds(self):
        for coefficients in ((), (1,), (1, -2), (1, 2, 3)):
            for thing in helpers.odd_things():
                self.assertIs(own.is_bounds(coefficients, thing), False, thing)

    def test_counters_for(self):
        for coefficients in ((2, -3), [2, -3]):
            for bounds in ((2, 1), [2, 1]):
                self.assertIs(own.is_counters_for(coefficients, bounds, 1, (2, 1)), True)
                self.assertIs(own.is_counters_for(coefficients, bounds, 0, (0, 0)), True)
                self.assertIs(own.is_counters_for(coefficients, bounds, 0, (2, 1)), False)
        # The sum is right each time, but a counter is not: beneath 0, above its bound, too few, too many.
        for number, thing in ((-2, (-1, 0)), (6, (3, 0)), (0, (3, 2)), (3, (0, -1)), (-6, (0, 2)), (2, (1,))):
            self.assertIs(own.is_counters_for((2, -3), (2, 1), number, thing), False)
        for thing in ((1, 0, 0), [1, 0], (True, 0), (1, False), ((1, 0),), ()):
            self.assertIs(own.is_counters_for((2, -3), (2, 1), 2, thing), False)
        self.assertIs(own.is_counters_for((), (), 0, ()), True)
        self.assertIs(own.is_counters_for((), (), 0, []), False)
        self.assertIs(own.is_counters_for((), (), 1, ()), False)
        self.assertIs(own.is_counters_for((GREAT, -1), (GREAT, 9), GREAT * GREAT - 9, (GREAT, 9)), True)
        self.assertIs(own.is_counters_for((GREAT, -1), (GREAT, 9), GREAT * GREAT - 8, (GREAT, 9)), False)

    def test_no_odd_thing_is_counters(self):
        for coefficients in ((), (1,), (1, 1), (1, 2, 3)):
            for number in (0, 1, 2, 6):
                for thing in helpers.odd_things():
                    bounds = (1,) * len(coefficients)
                    self.assertIs(own.is_counters_for(coefficients, bounds, number, thing), False, thing)

    def test_counters_for_is_as_a_walk_tells(self):
        for coefficients, bounds in helpers.drawn_cases(40, 2, 5, 3, 7):
            found = helpers.walk(coefficients, bounds)
            for number in range(min(found) - 1, max(found) + 2):
                for first in range(-1, 6):
                    for second in range(-1, 6):
                        told = own.is_counters_for(coefficients, bounds, number, (first, second))
                        self.assertIs(told, (first, second) in found.get(number, []))


class AnySize(unittest.TestCase):
    """What is asked for numbers of any size."""

    def test_least_and_greatest_sum_and_step_beside_a_walk(self):
        for coefficients, bounds in helpers.small_cases():
            found = helpers.walk(coefficients, bounds)
            self.assertEqual(own.least_sum(coefficients, bounds), min(found))
            self.assertEqual(own.greatest_sum(coefficients, bounds), max(found))
            self.assertEqual(own.step(coefficients), math.gcd(*coefficients))
            for number, ways in found.items():
                for counters in ways[:3]:
                    self.assertEqual(own.sum_of(coefficients, counters), number)

    def test_is_let_beside_its_words(self):
        for coefficients, bounds in helpers.small_cases():
            found = helpers.walk(coefficients, bounds)
            common = math.gcd(*coefficients)
            for number in range(min(found) - 3, max(found) + 4):
                divided = number == 0 if common == 0 else number % common == 0
                let = divided and min(found) <= number <= max(found)
                self.assertIs(own.is_let(coefficients, bounds, number), let)

    def test_great_numbers(self):
        six = (-GREAT,) * 3 + (GREAT,) * 3
        bounds = (GREAT,) * 6
        self.assertEqual(own.least_sum(six, bounds), -3 * GREAT * GREAT)
        self.assertEqual(own.greatest_sum(six, bounds), 3 * GREAT * GREAT)
        self.assertEqual(own.step(six), GREAT)
        self.assertEqual(own.step((GREAT, GREAT - 1)), 1)
        self.assertEqual(own.step((-GREAT, 6)), 2)
        self.assertEqual(own.sum_of(six, bounds), 0)
        self.assertEqual(own.sum_of((GREAT, -1), (GREAT, 1)), GREAT * GREAT - 1)
        self.assertIs(own.is_let(six, bounds, GREAT), True)
        self.assertIs(own.is_let(six, bounds, GREAT - 1), False)
        self.assertIs(own.is_let((GREAT,), (1,), GREAT), True)
        self.assertIs(own.is_let((GREAT,), (1,), 2 * GREAT), False)
        self.assertIs(own.is_let((GREAT, -1), (1, 1), -1), True)
        self.assertIs(own.is_let((GREAT, -1), (1, 1), -2), False)
        self.assertIs(own.is_let((GREAT, -1), (1, 1), GREAT + 1), False)
        self.assertEqual(own.mirrored(six, bounds, 7), -7)
        self.assertEqual(own.mirrored((GREAT, -1), (1, GREAT), GREAT), -GREAT)
        self.assertEqual(own.made_plain(six, bounds, GREAT), ((1,) * 6, bounds, 3 * GREAT + 1))
        self.assertIsNone(own.made_plain(six, bounds, 1))

    def test_nothing_but_the_empty_tuple(self):
        self.assertEqual(own.least_sum((), ()), 0)
        self.assertEqual(own.greatest_sum((), ()), 0)
        self.assertEqual(own.sum_of((), ()), 0)
        self.assertEqual([own.is_let((), (), number) for number in (-1, 0, 1, GREAT)], [False, True, False, False])
        self.assertEqual(own.mirrored((), (), 5), -5)
        self.assertEqual(own.made_plain((), (), 0), ((), (), 0))
        self.assertIsNone(own.made_plain((), (), -1))
        self.assertIsNone(own.made_plain((), (), GREAT))


class Turned(unittest.TestCase):
    """mirrored and made_plain: what they tell, and their guarantees."""

    def test_mirrored_beside_a_walk(self):
        for coefficients, bounds in helpers.small_cases():
            found = helpers.walk(coefficients, bounds)
            for number in range(min(found) - 2, max(found) + 3):
                other = own.mirrored(coefficients, bounds, number)
                self.assertEqual(other - min(found), max(found) - number)
                self.assertEqual(len(found.get(number, [])), len(found.get(other, [])))

    def test_made_plain_beside_a_walk(self):
        for coefficients, bounds in helpers.small_cases():
            found = helpers.walk(coefficients, bounds)
            common = math.gcd(*coefficients)
            sizes = tuple(abs(one) // common for one in coefficients)
            plain_found = helpers.walk(sizes, bounds)
            for number in range(min(found) - 4, max(found) + 5):
                told = own.made_plain(coefficients, bounds, number)
                if number % common != 0 if common else number != 0:
                    self.assertIsNone(told)
                    self.assertNotIn(number, found)
                    continue
                others, plain_bounds, rest = told
                self.assertEqual((others, plain_bounds), (sizes, bounds))
                self.assertEqual(rest * common, number - min(found))
                self.assertEqual(len(plain_found.get(rest, [])), len(found.get(number, [])))


class Walked(unittest.TestCase):
    """is_sum, sums, sums_between, counters_for and how_many_counters, beside a walk."""

    def test_beside_a_walk(self):
        for coefficients, bounds in helpers.small_cases():
            found = helpers.walk(coefficients, bounds)
            self.assertEqual(own.sums(coefficients, bounds), sorted(found))
            near = range(min(found) - 2, max(found) + 3)
            for number in list(near)[::max(1, len(near) // 12)]:
                self.check_number(coefficients, bounds, number, found.get(number, []))

    def check_number(self, coefficients, bounds, number, ways):
        self.assertIs(own.is_sum(coefficients, bounds, number), ways != [])
        self.assertEqual(own.how_many_counters(coefficients, bounds, number), len(ways))
        counters = own.counters_for(coefficients, bounds, number)
        if ways:
            self.assertIn(counters, ways)
            self.assertIs(own.is_counters_for(coefficients, bounds, number, counters), True)
        else:
            self.assertIsNone(counters)

    def test_every_number_of_some(self):
        for coefficients, bounds in helpers.drawn_cases(60, 3, 9, 5, 11):
            found = helpers.walk(coefficients, bounds)
            for number in range(min(found) - 2, max(found) + 3):
                self.check_number(coefficients, bounds, number, found.get(number, []))

    def test_just_beneath_and_above_the_ends(self):
        for coefficients, bounds in (((), ()), ((7,), (3,)), ((-7,), (3,)), ((2, -3), (4, 5)), ((-1, -1), (1, 1))):
            least, greatest = own.least_sum(coefficients, bounds), own.greatest_sum(coefficients, bounds)
            for number in (least, greatest):
                self.assertIs(own.is_sum(coefficients, bounds, number), True)
                self.assertEqual(own.how_many_counters(coefficients, bounds, number), 1)
            for number in (least - 1, greatest + 1, least - GREAT, greatest + GREAT, -GREAT, GREAT):
                self.assertIs(own.is_sum(coefficients, bounds, number), False)
                self.assertEqual(own.how_many_counters(coefficients, bounds, number), 0)
                self.assertIsNone(own.counters_for(coefficients, bounds, number))

    def test_sums_between(self):
        for coefficients, bounds in helpers.drawn_cases(60, 3, 6, 3, 13):
            found = sorted(helpers.walk(coefficients, bounds))
            for low in range(found[0] - 1, found[-1] + 2, 3):
                for high in range(found[0] - 1, found[-1] + 2, 4):
                    expected = [number for number in found if low <= number <= high]
                    self.assertEqual(own.sums_between(coefficients, bounds, low, high), expected)
            self.assertEqual(own.sums_between(coefficients, bounds, -GREAT, GREAT), found)
            self.assertEqual(own.sums_between(coefficients, bounds, found[0], found[-1]), found)
            self.assertEqual(own.sums_between(coefficients, bounds, GREAT, -GREAT), [])
            self.assertEqual(own.sums_between(coefficients, bounds, found[0], found[0]), found[:1])
        self.assertEqual(own.sums_between((), (), 0, 0), [0])
        self.assertEqual(own.sums_between((), (), 1, 9), [])

    def test_as_wide_as_can_be(self):
        coefficients, bounds = (60, -6), (60, 60)
        self.assertEqual(own.greatest_sum(coefficients, bounds) - own.least_sum(coefficients, bounds), 3960)
        found = helpers.walk(coefficients, bounds)
        self.assertEqual(own.sums(coefficients, bounds), sorted(found))
        for number in (-361, -360, -354, 0, 1, 6, 3600, 3601):
            self.check_number(coefficients, bounds, number, found.get(number, []))

    def test_many_counters(self):
        # 6 equal coefficients: as many as there are ways to share the number among 6.
        coefficients, bounds = (1, -1, 1, -1, 1, -1), (60,) * 6
        self.assertEqual(own.how_many_counters(coefficients, bounds, -180), 1)
        self.assertEqual(own.how_many_counters(coefficients, bounds, -180 + 60), math.comb(65, 5))
        self.assertEqual(own.how_many_counters(coefficients, bounds, -180 + 61), math.comb(66, 5) - 6)
        total = sum(own.how_many_counters(coefficients, bounds, number) for number in range(-180, 181))
        self.assertEqual(total, 61 ** 6)


if __name__ == "__main__":
    unittest.main()
