"""Tests in a row: points [3], [5], [7] and [12]."""

import itertools
import math
import unittest

from quickexact import order as own
from quickexact.errors import Unfit
from tests import helpers

GREAT = 10 ** 40
TESTS = ("divisor", "range", "chain", "heaps", "settled", "walk")
NO_TESTS = ("", "Walk", "walk ", " walk", "chains", "divisorrange", "sort", "divisor,range", "no", "None", "walk\n")

# A width of 4,000, just or nearly; coefficients and bounds as great as they may be.
WIDE = (
    ((60, -6), (60, 60)), ((50, 30), (50, 50)), ((59, 7), (60, 60)), ((60, -59), (33, 34)), ((13, -17, 19, 23), (60, 60, 60, 46)),
    ((60, 59, 58, 57, -56, 55), (11, 11, 11, 12, 12, 12)), ((10, -12, 14, 16, 18, -20), (44, 44, 44, 45, 45, 44)),
    ((1, 60), (1, 60)), ((-60,), (60,)), ((1,) * 6, (60,) * 6), ((6, 60, -12), (58, 58, 10)),
)


def order_cases():
    """Many small COEFFICIENTS and BOUNDS, () ahead of all."""
    yield (), ()
    yield from helpers.cases_of(1, 4, 3)
    yield from itertools.islice(helpers.cases_of(2, 6, 3), 0, None, 5)
    yield from helpers.drawn_cases(120, 2, 9, 9, 501)
    yield from helpers.drawn_cases(80, 3, 8, 3, 502)
    yield from helpers.drawn_cases(20, 4, 9, 3, 503)
    yield from helpers.drawn_cases(5, 6, 9, 2, 504)
    for coefficients in ((3, 5), (-3, 5), (4, 7), (6, 9), (2, 9), (5, 7, -8), (4, 6, 9)):
        for bounds in itertools.product((1, 2, 4, 7), repeat=len(coefficients)):
            yield coefficients, bounds


class Known:
    """What is known of COEFFICIENTS with BOUNDS, by walks."""

    def __init__(self, coefficients, bounds):
        self.found = helpers.walked_sums(coefficients, bounds)
        self.least, self.greatest = min(self.found), max(self.found)
        self.common = math.gcd(*coefficients)
        self.holes = [number for number in self.between() if self.is_let(number) and number not in self.found]
        self.heaps = helpers.walked_heaps(coefficients, 4 * (self.greatest - self.least) + 100)
        self.parting = [hole for hole in self.holes
                        if self.heaps[hole - self.least] and self.heaps[self.greatest - hole]]
        self.whole = self.least
        while self.common and self.whole + self.common in self.found:
            self.whole += self.common

    def between(self):
        return range(self.least, self.greatest + 1)

    def is_multiple(self, number):
        return number % self.common == 0 if self.common else number == 0

    def is_let(self, number):
        return self.is_multiple(number) and self.least <= number <= self.greatest

    def says(self, number, test):
        """What the test tells, row by row of the table."""
        ways = (number - self.least, self.greatest - number)
        if test == "divisor":
            return None if self.is_multiple(number) else "no"
        if test == "range":
            return "no" if number < self.least or number > self.greatest else None
        if test == "chain":
            if self.holes and number in (self.holes[0], self.holes[-1]):
                return "no"
            return "yes" if self.is_let(number) and min(ways) <= self.whole - self.least else None
        if test == "heaps":
            gaps = [way > 0 and self.is_multiple(way) and not self.heaps[way] for way in ways]
            return "no" if any(gaps) else None
        if test == "settled":
            return "yes" if all(way >= 0 and self.heaps[way] for way in ways) and not self.parting else None
        return "yes" if number in self.found else "no"

    def tells(self, number):
        """The tests that tell something of the number."""
        return [test for test in TESTS if self.says(number, test) is not None]


class Says(unittest.TestCase):
    def test_beside_walks(self):
        told = {}
        for coefficients, bounds in itertools.islice(order_cases(), 0, None, 2):
            known = Known(coefficients, bounds)
            for number in range(known.least - 4, known.greatest + 5):
                for test in TESTS:
                    answer = own.says(coefficients, bounds, number, test)
                    self.assertEqual(answer, known.says(number, test), (coefficients, bounds, number, test))
                    told[test, answer] = True
        self.assertEqual(set(told), {("divisor", "no"), ("divisor", None), ("range", "no"), ("range", None), ("chain", "no"),
                                     ("chain", "yes"), ("chain", None), ("heaps", "no"), ("heaps", None), ("settled", "yes"),
                                     ("settled", None), ("walk", "yes"), ("walk", "no")})

    def test_what_is_told_is_right(self):
        for coefficients, bounds in order_cases():
            found = helpers.walked_sums(coefficients, bounds)
            for number in (min(found) - 1, min(found), *range(-6, 7), max(found), max(found) + 1, (min(found) + max(found)) // 2):
                for test in TESTS:
                    answer = own.says(coefficients, bounds, number, test)
                    self.assertIn(answer, (None, "yes" if number in found else "no"))

    def test_first_ones_beside_walks(self):
        for coefficients, bounds in itertools.islice(order_cases(), 0, None, 3):
            known = Known(coefficients, bounds)
            for number in range(known.least - 2, known.greatest + 3):
                first = known.tells(number)[0]
                self.assertEqual(own.verdict(coefficients, bounds, number), (first, known.says(number, first)))
                self.assertEqual(own.first_telling(coefficients, bounds, number), first)

    def test_far_numbers(self):
        for number in (GREAT, -GREAT):
            for coefficients, bounds in (((3, 5), (5, 1)), ((3, -5), (60, 60)), ((1,), (1,))):
                told = [own.says(coefficients, bounds, number, test) for test in TESTS]
                self.assertEqual(told, [None, "no", None, None, None, "no"])
                self.assertEqual(own.verdict(coefficients, bounds, number), ("range", "no"))
            self.assertEqual(own.verdict((), (), number), ("divisor", "no"))
            self.assertEqual(own.verdict((6, -4), (3, 3), number + 1), ("divisor", "no"))
        # A gap that is above the greatest sum, and one that is below the least one.
        self.assertEqual(own.says((5, 7), (1, 1), 13, "heaps"), "no")
        self.assertEqual(own.says((5, 7), (1, 1), -1, "heaps"), "no")
        self.assertIsNone(own.says((5, 7), (1, 1), 36, "heaps"))
        self.assertEqual(own.says((-5, -7), (1, 1), 1, "heaps"), "no")

    def test_nothing(self):
        self.assertEqual([own.says((), (), 0, test) for test in TESTS], [None, None, "yes", None, "yes", "yes"])
        self.assertEqual([own.says((), (), 1, test) for test in TESTS], ["no", "no", None, None, None, "no"])
        self.assertEqual(own.verdict((), (), 0), ("chain", "yes"))
        self.assertEqual(own.how_many_told((), ()), (0, 0, 1, 0, 0, 0))
        self.assertEqual(own.numbers_told((), (), "chain"), [0])
        self.assertEqual(own.fewest_tests((), ()), ("chain",))
        self.assertIs(own.are_enough((), (), ()), False)
        self.assertIs(own.are_enough((), (), ("settled",)), True)
        self.assertEqual(own.false_alarms((), (), ()), [])


class Rows(unittest.TestCase):
    """numbers_told, how_many_told, are_enough, fewest_tests and false_alarms."""

    def test_beside_walks(self):
        found = {}
        for coefficients, bounds in order_cases():
            known = Known(coefficients, bounds)
            telling = {number: known.tells(number) for number in known.between()}
            many = []
            for test in TESTS:
                numbers = [number for number in known.between() if telling[number][0] == test]
                self.assertEqual(own.numbers_told(coefficients, bounds, test), numbers)
                many.append(len(numbers))
            self.assertEqual(own.how_many_told(coefficients, bounds), tuple(many))
            enough = []
            others = sorted(TESTS[:-1])
            for some in itertools.chain.from_iterable(itertools.combinations(others, size) for size in range(6)):
                if all(any(test in some for test in row) for row in telling.values()):
                    enough.append((len(some), some))
            told = min(enough)[1] if enough else None
            self.assertEqual(own.fewest_tests(coefficients, bounds), told)
            found[told] = True
        self.assertLessEqual({None, ("chain",), ("chain", "divisor"), ("heaps", "settled")}, set(found))
        self.assertLessEqual({("divisor", "heaps", "settled")}, set(found))

    def test_enough_beside_walks(self):
        for coefficients, bounds in itertools.islice(order_cases(), 0, None, 12):
            known = Known(coefficients, bounds)
            telling = [known.tells(number) for number in known.between()]
            for size in range(7):
                for some in itertools.combinations(TESTS, size):
                    enough = all(any(test in some for test in row) for row in telling)
                    # In whatever order, also twice.
                    self.assertIs(own.are_enough(coefficients, bounds, some), enough)
                    self.assertIs(own.are_enough(coefficients, bounds, some[::-1] + some[:1]), enough)
                    self.assertEqual(enough and "walk" not in some and size < len(own.fewest_tests(coefficients, bounds)),
                                     False)

    def test_false_alarms_beside_walks(self):
        for coefficients, bounds in itertools.islice(order_cases(), 0, None, 9):
            known = Known(coefficients, bounds)
            for size in range(7):
                for some in itertools.combinations(TESTS, size):
                    alarms = [number for number in known.between() if number not in known.found
                              and "no" not in [known.says(number, test) for test in some]]
                    self.assertEqual(own.false_alarms(coefficients, bounds, some), alarms)
                    self.assertEqual(own.false_alarms(coefficients, bounds, some[::-1] * 2), alarms)

    def test_told_ones_are_all(self):
        for coefficients, bounds in itertools.islice(order_cases(), 0, None, 10):
            told = [number for test in TESTS for number in own.numbers_told(coefficients, bounds, test)]
            found = helpers.walked_sums(coefficients, bounds)
            self.assertEqual(sorted(told), list(range(min(found), max(found) + 1)))
            self.assertEqual(sum(own.how_many_told(coefficients, bounds)), len(told))

    def test_as_wide_as_can_be(self):
        for coefficients, bounds in WIDE:
            self.assertLessEqual(sum(abs(one) * bound for one, bound in zip(coefficients, bounds)), 4000)
            known = Known(coefficients, bounds)
            telling = {number: known.tells(number) for number in known.between()}
            for test in TESTS:
                numbers = helpers.quickly(self, own.numbers_told, coefficients, bounds, test)
                self.assertEqual(numbers, [number for number in known.between() if telling[number][0] == test])
            many = helpers.quickly(self, own.how_many_told, coefficients, bounds)
            self.assertEqual(sum(many), known.greatest - known.least + 1)
            for tests in ((), ("divisor", "range"), ("settled", "heaps", "chain"), TESTS):
                enough = all(any(test in tests for test in row) for row in telling.values())
                self.assertIs(helpers.quickly(self, own.are_enough, coefficients, bounds, tests), enough)
                alarms = [number for number in known.between() if number not in known.found
                          and "no" not in [known.says(number, test) for test in tests]]
                self.assertEqual(helpers.quickly(self, own.false_alarms, coefficients, bounds, tests), alarms)
            told = helpers.quickly(self, own.fewest_tests, coefficients, bounds)
            if told is None:
                self.assertIs(own.are_enough(coefficients, bounds, TESTS[:-1]), False)
            else:
                self.assertIs(own.are_enough(coefficients, bounds, told), True)
                for test in told:
                    fewer = [other for other in told if other != test]
                    self.assertIs(own.are_enough(coefficients, bounds, fewer), False)
            for number in (known.least, known.least + 7, 0, known.greatest - 1, known.greatest, GREAT, -GREAT):
                helpers.quickly(self, own.verdict, coefficients, bounds, number)
                for test in TESTS:
                    answer = helpers.quickly(self, own.says, coefficients, bounds, number, test)
                    if -3000 < number < 9000:
                        self.assertEqual(answer, known.says(number, test))


class Unfits(unittest.TestCase):
    def check(self, function, *told):
        with self.assertRaises(Unfit) as caught:
            function(*told)
        self.assertEqual(vars(caught.exception), {})

    def test_tests_that_are_none(self):
        for test in NO_TESTS:
            for coefficients, bounds in (((), ()), ((3, 5), (5, 1))):
                self.check(own.says, coefficients, bounds, 3, test)
                self.check(own.numbers_told, coefficients, bounds, test)
                for tests in ((test,), [test], TESTS + (test,), (test,) + TESTS, ("walk", test, "walk"), ("chain", test)):
                    self.check(own.are_enough, coefficients, bounds, tests)
                    self.check(own.false_alarms, coefficients, bounds, tests)

    def test_ahead_of_all_else(self):
        # Even where the rest is not as it must be.
        for coefficients, bounds in (((0,), (0,)), ((3, 5), ()), ((10 ** 9,), (10 ** 9,))):
            self.check(own.says, coefficients, bounds, None, "sort")
            self.check(own.numbers_told, coefficients, bounds, "sort")
            self.check(own.are_enough, coefficients, bounds, ("walk", "sort"))
            self.check(own.false_alarms, coefficients, bounds, ("walk", "sort"))

    def test_each_of_the_six_is_one(self):
        for test in TESTS:
            own.says((3, 5), (5, 1), 3, test)
            self.assertIs(own.are_enough((3, 5), (5, 1), (test,)), test == "walk")


if __name__ == "__main__":
    unittest.main()
