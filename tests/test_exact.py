"""Exactness: points [3] and [5]."""

import itertools
import math
import unittest

from quickexact import exact as own
from quickexact.errors import NoCounter
from tests import helpers

GREAT = 10 ** 40


def exact_cases():
    """COEFFICIENTS with BOUNDS of which many are exact, and many are just not."""
    yield from helpers.small_cases()
    yield from helpers.drawn_cases(500, 3, 4, 3, 21)
    yield from helpers.drawn_cases(300, 4, 5, 2, 22)
    for sizes in itertools.combinations_with_replacement((1, -2, 3, -4, 5, 7, 9), 3):
        for order in sorted(set(itertools.permutations(sizes))):
            yield order, (1, 2, 1)
    yield (1, -2, 4, -8, 16, 32), (1,) * 6
    yield (1, -2, 4, -8, 17, 32), (1,) * 6
    yield (32, 16, 8, 4, 2, 2), (1,) * 6


def walked_chains(coefficients, bounds):
    """All chains as the document tells them, ascending, by trying each order."""
    common = math.gcd(*coefficients)
    found = []
    for order in itertools.permutations(range(len(coefficients))):
        sizes = [abs(coefficients[place]) for place in order]
        if sizes == sorted(sizes):
            reaches = [0]
            for place in order:
                reaches.append(reaches[-1] + abs(coefficients[place]) * bounds[place])
            if all(size <= reach + common for size, reach in zip(sizes, reaches)):
                found.append(order)
    return found


class Exactness(unittest.TestCase):
    def test_holes_beside_a_walk(self):
        for coefficients, bounds in exact_cases():
            holes = helpers.walked_holes(coefficients, bounds)
            self.assertIs(own.is_exact(coefficients, bounds), holes == [], (coefficients, bounds))
            self.assertEqual(own.first_hole(coefficients, bounds), holes[0] if holes else None)
            self.assertEqual(own.last_hole(coefficients, bounds), holes[-1] if holes else None)

    def test_whole_to_beside_a_walk(self):
        for coefficients, bounds in exact_cases():
            holes = helpers.walked_holes(coefficients, bounds)
            found = sorted(helpers.walk(coefficients, bounds))
            whole = [number for number in found if not holes or number < holes[0]]
            self.assertEqual(own.whole_to(coefficients, bounds), whole[-1])

    def test_chains_beside_all_orders(self):
        for coefficients, bounds in exact_cases():
            chains = walked_chains(coefficients, bounds)
            self.assertEqual(own.chain(coefficients, bounds), chains[0] if chains else None)
            self.assertEqual(chains != [], helpers.walked_holes(coefficients, bounds) == [])
            if len(coefficients) <= 4:
                for order in itertools.permutations(range(len(coefficients))):
                    self.assertIs(own.is_chain(coefficients, bounds, order), order in chains)

    def test_greater_bounds_stay_exact(self):
        for coefficients, bounds in helpers.drawn_cases(300, 3, 5, 3, 31):
            if own.is_exact(coefficients, bounds):
                for more in itertools.product((0, 1, 3), repeat=3):
                    wider = tuple(bound + one for bound, one in zip(bounds, more))
                    self.assertEqual(helpers.walked_holes(coefficients, wider), [])
                    self.assertIs(own.is_exact(coefficients, wider), True)

    def test_nothing_and_one(self):
        self.assertEqual(own.chain((), ()), ())
        self.assertIs(own.is_exact((), ()), True)
        self.assertIsNone(own.first_hole((), ()))
        self.assertIsNone(own.last_hole((), ()))
        self.assertEqual(own.whole_to((), ()), 0)
        self.assertEqual(own.exact_from(()), 1)
        self.assertEqual(own.idle_counters((), ()), ())
        for one in (-GREAT, -7, -1, 1, 7, GREAT):
            self.assertEqual(own.chain((one,), (3,)), (0,))
            self.assertIs(own.is_exact((one,), (3,)), True)
            self.assertIsNone(own.first_hole((one,), (3,)))
            self.assertEqual(own.whole_to((one,), (3,)), max(0, 3 * one))
            self.assertEqual(own.exact_from((one,)), 1)
            self.assertEqual(own.bound_needed((one,), (3,), 0), 1)
            self.assertEqual(own.idle_counters((one,), (3,)), (0,))


class IsChain(unittest.TestCase):
    def test_things_of_all_kinds(self):
        for coefficients in ((), (1,), (1, 1), (1, -2), (2, 1, -1)):
            bounds = (9,) * len(coefficients)
            for thing in helpers.odd_things():
                self.assertIs(own.is_chain(coefficients, bounds, thing), False, thing)

    def test_one_counter(self):
        self.assertIs(own.is_chain((5,), (1,), (0,)), True)
        self.assertIs(own.is_chain([5], [1], (0,)), True)
        for thing in ([0], (False,), (1,), (-1,), (0, 0), (), (0, 1), ((0,),), ([0],), ("0",), (None,), 0, "0"):
            self.assertIs(own.is_chain((5,), (1,), thing), False, thing)

    def test_two_counters(self):
        self.assertIs(own.is_chain((2, 1), (1, 1), (1, 0)), True)
        for thing in ((0, 1), [1, 0], (1, False), (True, 0), (1, 0, 0), (1, 1), (0, 0), (1,), (-1, 0), (1, -2),
                      (1, 2), (2, 0), (GREAT, 0), (0, GREAT ** 9), ((1, 0),), ((1,), (0,)), ("1", "0"), (1, None)):
            self.assertIs(own.is_chain((2, 1), (1, 1), thing), False, thing)

    def test_ties_in_any_order(self):
        for thing in itertools.permutations((0, 1, 2)):
            self.assertIs(own.is_chain((3, -3, 3), (1, 2, 3), thing), True)
        self.assertIs(own.is_chain((2, -2, 3), (1, 1, 1), (0, 1, 2)), False)
        self.assertIs(own.is_chain((), (), ()), True)
        self.assertIs(own.is_chain((), (), []), False)


class FromBounds(unittest.TestCase):
    """exact_from, bound_needed and idle_counters."""

    def test_exact_from_beside_a_walk(self):
        lists = [(), (1,), (-3,), (1, 3), (-1, 3), (2, 3), (4, -2), (3, 9, 6), (1, 1, 5), (1, 2, 9), (2, 4, 10), (1, 4, -4)]
        lists += list(itertools.product((-6, -4, -1, 2, 3, 7), repeat=2))
        lists += list(itertools.product((-1, 2, 4, 5), repeat=3))
        for coefficients in lists:
            many = len(coefficients)
            needed = own.exact_from(coefficients)
            has_step = () == coefficients or math.gcd(*coefficients) in [abs(one) for one in coefficients]
            self.assertEqual(needed is not None, has_step, coefficients)
            if needed is None:
                self.assertNotEqual(helpers.walked_holes(coefficients, (9,) * many), [])
                continue
            for bounds in itertools.product((needed, needed + 1, needed + 3), repeat=many):
                self.assertEqual(helpers.walked_holes(coefficients, bounds), [], coefficients)
            if needed > 1:
                self.assertNotEqual(helpers.walked_holes(coefficients, (needed - 1,) * many), [])
            else:
                self.assertEqual(needed, 1)

    def test_bound_needed_beside_a_walk(self):
        for coefficients, bounds in itertools.chain(helpers.cases_of(1, 4, 2), helpers.cases_of(2, 5, 2),
                                                    helpers.drawn_cases(300, 3, 7, 2, 41),
                                                    helpers.drawn_cases(60, 4, 7, 2, 42)):
            for place in range(len(coefficients)):
                found = None
                for bound in range(1, 9):
                    changed = bounds[:place] + (bound,) + bounds[place + 1:]
                    if helpers.walked_holes(coefficients, changed) == []:
                        found = bound
                        break
                told = own.bound_needed(coefficients, bounds, place)
                self.assertEqual(told, found, (coefficients, bounds, place))

    def test_idle_counters_beside_a_walk(self):
        for coefficients, bounds in exact_cases():
            found = []
            for place in range(len(coefficients)):
                left = coefficients[:place] + coefficients[place + 1:]
                if helpers.walked_holes(left, bounds[:place] + bounds[place + 1:]) == []:
                    found.append(place)
            self.assertEqual(own.idle_counters(coefficients, bounds), tuple(found))

    def test_places_that_no_counter_has(self):
        for coefficients, bounds in (((), ()), ((3,), (1,)), ((1, 3), (1, 5)), ((2, 3), (1, 1)), ([1, 3], [1, 5])):
            many = len(coefficients)
            for place in (-GREAT, -many - 1, -many, -1, many, many + 1, GREAT):
                if not 0 <= place < many:
                    with self.assertRaises(NoCounter) as caught:
                        own.bound_needed(coefficients, bounds, place)
                    self.assertEqual(vars(caught.exception), {"place": place})


class GreatNumbers(unittest.TestCase):
    """What is told of small numbers holds, as it is, of their multiples; and edges near 10 ** 40."""

    def test_multiples(self):
        for factor in (10 ** 38, 3 ** 70, -(2 ** 120)):
            for coefficients, bounds in helpers.drawn_cases(200, 3, 6, 3, 51):
                great = tuple(factor * one for one in coefficients)
                holes = [factor * hole for hole in helpers.walked_holes(coefficients, bounds)]
                self.assertIs(own.is_exact(great, bounds), holes == [])
                self.assertEqual(own.chain(great, bounds), own.chain(coefficients, bounds))
                self.assertEqual(own.first_hole(great, bounds), min(holes) if holes else None)
                self.assertEqual(own.last_hole(great, bounds), max(holes) if holes else None)
                self.assertEqual(own.exact_from(great), own.exact_from(coefficients))
                self.assertEqual(own.idle_counters(great, bounds), own.idle_counters(coefficients, bounds))
                for place in range(3):
                    told = own.bound_needed(great, bounds, place)
                    self.assertEqual(told, own.bound_needed(coefficients, bounds, place))

    def test_one_too_few(self):
        self.assertIs(own.is_exact((GREAT, 1), (GREAT, GREAT - 1)), True)
        self.assertIs(own.is_exact((GREAT, 1), (GREAT, GREAT - 2)), False)
        self.assertIs(own.is_exact((GREAT, -1), (GREAT, GREAT - 2)), False)
        self.assertEqual(own.first_hole((GREAT, 1), (3, GREAT - 2)), GREAT - 1)
        self.assertEqual(own.first_hole((GREAT, -1), (3, GREAT - 2)), 1)
        self.assertEqual(own.last_hole((GREAT, 1), (3, GREAT - 2)), 3 * GREAT - 1)
        self.assertEqual(own.whole_to((GREAT, 1), (3, GREAT - 2)), GREAT - 2)
        self.assertEqual(own.whole_to((GREAT, 1), (3, GREAT - 1)), 4 * GREAT - 1)
        self.assertEqual(own.chain((GREAT, 1), (3, GREAT - 1)), (1, 0))
        self.assertIsNone(own.chain((GREAT, 1), (3, GREAT - 2)))
        self.assertIs(own.is_chain((GREAT, 1), (3, GREAT - 1), (1, 0)), True)
        self.assertIs(own.is_chain((GREAT, 1), (3, GREAT - 2), (1, 0)), False)
        self.assertEqual(own.bound_needed((GREAT, 1), (3, 1), 1), GREAT - 1)
        self.assertIsNone(own.bound_needed((GREAT, 1), (3, 1), 0))
        self.assertEqual(own.exact_from((GREAT, 1)), GREAT - 1)
        self.assertIsNone(own.exact_from((GREAT, GREAT - 1)))
        self.assertEqual(own.bound_needed((GREAT, 3, 1), (1, 1, 2), 1), (GREAT - 3 + 2) // 3)

    def test_six_great_ones(self):
        sizes = tuple((-1) ** power * 10 ** power for power in (8, 16, 24, 32, 40)) + (1,)
        self.assertEqual(own.exact_from(sizes), 10 ** 8 - 1)
        self.assertEqual(own.chain(sizes, (10 ** 8,) * 6), (5, 0, 1, 2, 3, 4))
        self.assertEqual(own.chain(sizes, (10 ** 8 - 1,) * 6), (5, 0, 1, 2, 3, 4))
        self.assertIsNone(own.chain(sizes, (10 ** 8 - 2,) * 6))
        self.assertEqual(own.idle_counters(sizes, (10 ** 8 - 1,) * 6), (4, 5))

    def test_returned_numbers_are_passed_in_again(self):
        sizes = (1, GREAT - 1, -GREAT, 7)
        for place in range(4):
            needed = own.bound_needed(sizes, (GREAT, 1, 1, 1), place)
            bounds = tuple(needed if here == place else bound for here, bound in enumerate((GREAT, 1, 1, 1)))
            self.assertIs(own.is_exact(sizes, bounds), True)
        self.assertIs(own.is_exact(sizes, (own.exact_from(sizes),) * 4), True)
        self.assertIs(own.is_exact((own.whole_to((GREAT, GREAT), (GREAT, GREAT)), 1), (2, GREAT ** 3)), True)


if __name__ == "__main__":
    unittest.main()
