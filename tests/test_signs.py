"""Orders of rounds: points [3], [8] and [10], and [1] (c)."""

import itertools
import math
import unittest

from quickexact import nests
from quickexact import signs as own
from tests import helpers

GREAT = 10 ** 40

# As great as they may be: bounds of loops, numbers of one and of other.
WIDE = (
    ((60,), (33,), (-33,)), ((60,), (33,), (33,)), ((60,), (60,), (6,)), ((33, 34), (60, 1), (0, 57)),
    ((60, 60, 60), (11, -11, 11), (11, 11, -11)), ((60, 60, 60), (11, -11, 11), (10, -11, 12)),
    ((60, 60, 60), (1, 31, 1), (-2, 30, 1)), ((60, 59, 58), (11, 12, 11), (11, 11, 11)), ((60, 60, 60), (1, 2, 3), (0, 60, 0)),
    ((60, 1, 2), (60, 10, 9), (-4, 10, 9)), ((GREAT, 33, 60), (0, 60, 0), (0, 0, 33)), ((60, GREAT, GREAT), (6, 0, 0), (-60, 0, 0)),
    ((GREAT,), (0,), (0,)), ((GREAT, 60, 60), (0, 17, -16), (0, 16, 17)), ((GREAT, GREAT, 60), (0, 0, 60), (0, 0, 6)),
)


def all_orders(many):
    """All SIGNS of so many loops."""
    return ["".join(row) for row in itertools.product("<=>", repeat=many)]


def order_of(counters, others):
    """The SIGNS of two ROUNDS, loop by loop."""
    return "".join("<" if one < two else ">" if one > two else "=" for one, two in zip(counters, others))


def walked_orders(loops, one, other):
    """The pairs of ROUNDS in which both are the same cell, by their SIGNS, as a dict."""
    found = {}
    for counters, mates in helpers.walked_pairs(loops, one, other):
        found.setdefault(order_of(counters, mates), []).append((counters, mates))
    return found


def walked_values(loops, one, other):
    """The values of all pairs of ROUNDS, by their SIGNS, as a dict of sets."""
    found = {}
    rounds = helpers.walked_rounds(loops)
    for counters, mates in itertools.product(rounds, repeat=2):
        value = helpers.walked_cell(one, counters) - one[1] - helpers.walked_cell(other, mates) + other[1]
        found.setdefault(order_of(counters, mates), set()).add(value)
    return found


def lets_by_words(values, goal):
    """Whether the test lets SIGNS with these values, as the document tells it."""
    common = math.gcd(*[one - min(values) for one in values])
    divided = (goal - min(values)) % common == 0 if common else goal == min(values)
    return min(values) <= goal <= max(values) and divided


def one_value(number, mate, bound, sign):
    """The values of one loop, by a walk over its numbers."""
    return {number * one - mate * two for one in range(bound + 1) for two in range(bound + 1)
            if order_of((one,), (two,)) == sign}


def wide_values(bounds, numbers, mates, signs):
    """The values of all pairs with SIGNS, loop by loop; a loop that is in no place adds 0."""
    found = {0}
    for bound, number, mate, sign in zip(bounds, numbers, mates, signs):
        if number or mate:
            own_values = one_value(number, mate, bound, sign)
            found = {total + value for total in found for value in own_values}
    return found


class Kinds(unittest.TestCase):
    def test_signs_of_all_kinds(self):
        for many in range(4):
            loops = helpers.some_loops((1,) * many)
            for thing in helpers.odd_nest_things() + all_orders(2) + all_orders(3):
                is_told = isinstance(thing, str) and len(thing) == many and set(thing) <= set("<=>")
                self.assertIs(own.is_signs(loops, thing), is_told, thing)
            for letters in itertools.product("<=> x>", repeat=many):
                thing = "".join(letters)
                self.assertIs(own.is_signs(loops, thing), set(thing) <= set("<=>"))
                self.assertIs(own.is_signs(loops, thing + "="), False)
                self.assertIs(own.is_signs(loops, letters), False)
        self.assertIs(own.is_signs([["i", 1]], "<"), True)
        self.assertIs(own.is_signs([], ""), True)

    def test_signs_between_beside_all(self):
        for many in range(4):
            for counters in itertools.product(range(3), repeat=many):
                for others in itertools.product(range(3), repeat=many):
                    told = own.signs_between(counters, others)
                    self.assertEqual(told, order_of(counters, others))
                    self.assertEqual(own.turned_signs(told), own.signs_between(others, counters))
        self.assertEqual(own.signs_between((GREAT, GREAT, 0), (GREAT - 1, GREAT, 1)), ">=<")

    def test_turned_signs(self):
        for signs, told in (("", ""), ("<", ">"), (">", "<"), ("=", "="), ("<=>", ">=<"), ("<<>>=" * 9, ">><<=" * 9)):
            self.assertEqual(own.turned_signs(signs), told)
            self.assertEqual(own.turned_signs(told), signs)

    def test_is_touching_with_beside_a_walk(self):
        for loops, one, other in itertools.islice(helpers.nest_cases(), 0, None, 11):
            found = walked_orders(loops, one, other)
            for signs in all_orders(len(loops))[:9]:
                for thing in itertools.product(helpers.walked_rounds(loops), repeat=2):
                    is_told = thing in found.get(signs, [])
                    self.assertIs(own.is_touching_with(loops, one, other, signs, thing), is_told)
                for counters, mates in found.get(signs, [])[:2]:
                    for thing in ([counters, mates], (list(counters), mates), (counters,), (counters, mates, ()), mates):
                        self.assertIs(own.is_touching_with(loops, one, other, signs, thing), False)

    def test_is_touching_with_things_of_all_kinds(self):
        for many in range(4):
            loops = helpers.some_loops((1,) * many)
            one = ((0,) * many, 7)
            for thing in helpers.odd_nest_things():
                is_pair = helpers.has_form(thing, helpers.pair_form(many))
                is_pair = is_pair and all(0 <= counter <= 1 for row in thing for counter in row)
                for signs in all_orders(many):
                    is_told = is_pair and order_of(*thing) == signs
                    self.assertIs(own.is_touching_with(loops, one, one, signs, thing), is_told, thing)

    def test_is_touching_with_great_ones(self):
        loops = (("i", GREAT), ("j", GREAT))
        one, other = ((GREAT, 1), -GREAT), ((0, GREAT), GREAT ** 2 - GREAT)
        self.assertIs(own.is_touching_with(loops, one, other, ">=", ((GREAT, 0), (5, 0))), True)
        self.assertIs(own.is_touching_with(loops, one, other, "==", ((GREAT, 0), (5, 0))), False)
        self.assertIs(own.is_touching_with(loops, one, other, "=>", ((GREAT, GREAT), (GREAT, 1))), True)


class Lets(unittest.TestCase):
    def test_beside_a_walk(self):
        told = {True: 0, False: 0}
        for loops, one, other in helpers.nest_cases():
            values = walked_values(loops, one, other)
            for signs in all_orders(len(loops)):
                lets = lets_by_words(values[signs], other[1] - one[1])
                self.assertIs(own.lets_with(loops, one, other, signs), lets, (loops, one, other, signs))
                told[lets] += 1
        self.assertGreater(min(told.values()), 500)

    def test_all_goals_of_one_loop(self):
        for bound, number, mate in itertools.product((1, 2, 3, 4), (-6, -4, -1, 0, 2, 4, 5), (-4, 0, 1, 2, 4, 6)):
            for sign in "<=>":
                values = one_value(number, mate, bound, sign)
                for goal in range(min(values) - 3, max(values) + 4):
                    lets = own.lets_with((("i", bound),), ((number,), 1), ((mate,), goal + 1), sign)
                    self.assertIs(lets, lets_by_words(values, goal))

    def test_what_touches_is_let(self):
        for loops, one, other in helpers.nest_cases():
            for signs in walked_orders(loops, one, other):
                self.assertIs(own.lets_with(loops, one, other, signs), True)

    def test_greatest_ones(self):
        # All numbers taken as often change nothing.
        for loops, one, other in helpers.drawn_places(80, 2, 3, 6, 321):
            greater = [(tuple(number * GREAT for number in place[0]), place[1] * GREAT) for place in (one, other)]
            for signs in all_orders(2):
                lets = own.lets_with(loops, one, other, signs)
                self.assertIs(own.lets_with(loops, *greater, signs), lets)
        loops = (("i", GREAT),)
        for number in (-GREAT - 1, -GREAT, -GREAT + 1, -2, -1, 0, 1, 2, GREAT - 1, GREAT, GREAT + 1):
            told = [own.lets_with(loops, ((1,), 0), ((1,), number), sign) for sign in "<=>"]
            self.assertEqual(told, [-GREAT <= number <= -1, number == 0, 1 <= number <= GREAT])
            told = [own.lets_with(loops, ((2,), 0), ((-2,), number), sign) for sign in "<=>"]
            self.assertEqual(told, [number % 2 == 0 and number > 0, number % 4 == 0 and number >= 0,
                                    number % 2 == 0 and number > 0])
        self.assertIs(own.lets_with((("i", GREAT), ("j", 1)), ((GREAT, GREAT), 0), ((GREAT, 1 - GREAT), GREAT), "=>"), True)
        self.assertIs(own.lets_with((("i", GREAT), ("j", 1)), ((GREAT, GREAT), 0), ((GREAT, 1 - GREAT), GREAT), "=<"), False)

    def test_far_corners(self):
        # The least and the greatest value of each sign, and what is one step beyond them.
        bound = GREAT
        for number, mate in itertools.product((3, -3, 5), (3, 4, -4)):
            ends = {"=": (0, (number - mate) * bound), "<": (-mate, -mate * bound, number * (bound - 1) - mate * bound),
                    ">": (number, number * bound, number * bound - mate * (bound - 1))}
            for sign, values in ends.items():
                for goal in (min(values), max(values)):
                    self.assertIs(own.lets_with((("i", bound),), ((number,), 0), ((mate,), goal), sign), True)
                step = abs(number - mate) if sign == "=" else math.gcd(number, mate)
                for goal in (min(values) - max(1, step), max(values) + max(1, step)):
                    self.assertIs(own.lets_with((("i", bound),), ((number,), 0), ((mate,), goal), sign), False)


class AtAll(unittest.TestCase):
    def check(self, one, other, bound):
        loops = helpers.some_loops((bound,) * len(one[0]))
        told = own.signs_at_all(one, other)
        self.assertEqual(told, sorted(walked_orders(loops, one, other)), (one, other))

    def test_one_loop_beside_a_walk(self):
        for number, mate, goal in itertools.product(range(-3, 4), range(-3, 4), (-7, -4, -3, -2, -1, 0, 1, 2, 3, 5, 6)):
            self.check(((number,), 2), ((mate,), goal + 2), 14)

    def test_two_loops_beside_a_walk(self):
        for _, one, other in helpers.drawn_places(100, 2, 1, 2, 331):
            self.check(one, other, 10)

    def test_three_loops_beside_a_walk(self):
        for _, one, other in helpers.drawn_places(12, 3, 1, 1, 332):
            self.check(one, other, 3)

    def test_greater_numbers_beside_what_comes(self):
        # With numbers above 0 alone the values are heaps: too small goals never come.
        self.assertEqual(own.signs_at_all(((5,), 0), ((2,), 0)), ["<", "="])
        self.assertEqual(own.signs_at_all(((60,), 0), ((0,), 59)), [])
        self.assertEqual(own.signs_at_all(((60,), 0), ((0,), 60)), ["<", "=", ">"])
        self.assertEqual(own.signs_at_all(((60,), 0), ((60,), 60 * GREAT // 10)), [">"])
        self.assertEqual(own.signs_at_all(((60,), 0), ((60,), -60 * GREAT // 10)), ["<"])
        self.assertEqual(own.signs_at_all(((60, 59, 58), 0), ((-60, -59, -58), GREAT)), all_orders(3))
        self.assertEqual(own.signs_at_all(((60, 59, 58), 0), ((-60, -59, -58), -GREAT)), [])
        self.assertEqual(own.signs_at_all(((60, -60), GREAT), ((59, 60), -GREAT)), all_orders(2))
        self.assertEqual(own.signs_at_all(((0, 0, 0), GREAT), ((0, 0, 0), GREAT)), all_orders(3))
        self.assertEqual(own.signs_at_all(((0, 0, 0), GREAT), ((0, 0, 0), GREAT - 1)), [])

    def test_greatest_ones_are_quick(self):
        for one, other in ((((60, 59, 58), GREAT), ((-60, -59, -58), -GREAT)), (((-60, 60, -60), 1), ((60, -59, 60), GREAT)),
                           (((60, 60, 60), 0), ((-60, -60, -59), GREAT)), (((1, 60, -59), 7), ((60, -60, 58), 1 - GREAT))):
            told = helpers.quickly(self, own.signs_at_all, one, other)
            self.assertEqual(told, sorted(set(told)))

    def test_as_the_guarantee_tells(self):
        from quickexact.unknown import comes_at_all
        for _, one, other in helpers.drawn_places(60, 3, 1, 60, 333):
            told = own.signs_at_all(one, other)
            for signs in all_orders(3):
                number = other[1] - one[1]
                number += sum(mate for mate, sign in zip(other[0], signs) if sign == "<")
                number -= sum(own_one for own_one, sign in zip(one[0], signs) if sign == ">")
                coefficients = [own_one - mate for own_one, mate in zip(one[0], other[0])]
                coefficients += [-mate for mate, sign in zip(other[0], signs) if sign == "<"]
                coefficients += [own_one for own_one, sign in zip(one[0], signs) if sign == ">"]
                coefficients = tuple(number for number in coefficients if number)
                self.assertIs(signs in told, comes_at_all(coefficients, number))


class Touches(unittest.TestCase):
    """touch_with, touching_with, all_signs, missed_signs, carried_by and distances."""

    def check_shown(self, loops, one, other, signs, touches):
        told = own.touching_with(loops, one, other, signs)
        self.assertIs(own.touch_with(loops, one, other, signs), touches, (loops, one, other, signs))
        if not touches:
            self.assertIsNone(told)
            return
        self.assertTrue(helpers.has_form(told, helpers.pair_form(len(loops))))
        self.assertIs(own.is_touching_with(loops, one, other, signs, told), True)
        self.assertEqual(order_of(*told), signs)
        self.assertEqual(helpers.walked_cell(one, told[0]), helpers.walked_cell(other, told[1]))
        for row in told:
            self.assertTrue(all(0 <= counter <= bound for counter, (_, bound) in zip(row, loops)))

    def test_beside_a_walk(self):
        for loops, one, other in helpers.nest_cases():
            found = walked_orders(loops, one, other)
            for signs in all_orders(len(loops)):
                self.check_shown(loops, one, other, signs, signs in found)
            self.assertEqual(own.all_signs(loops, one, other), sorted(found))
            self.assertIs(nests.touch(loops, one, other), len(found) > 0)
            carriers = {loops[len(signs) - len(signs.lstrip("="))][0] for signs in found if signs.strip("=")}
            self.assertEqual(own.carried_by(loops, one, other), tuple(sorted(carriers)))

    def test_missed_beside_a_walk(self):
        many = 0
        for loops, one, other in helpers.nest_cases():
            found = walked_orders(loops, one, other)
            values = walked_values(loops, one, other)
            missed = [signs for signs in all_orders(len(loops))
                      if signs not in found and lets_by_words(values[signs], other[1] - one[1])]
            self.assertEqual(own.missed_signs(loops, one, other), missed)
            many += len(missed)
        self.assertGreater(many, 20)

    def test_distances_beside_a_walk(self):
        for loops, one, other in helpers.nest_cases():
            found = {tuple(mate - counter for counter, mate in zip(counters, mates))
                     for counters, mates in helpers.walked_pairs(loops, one, other)}
            self.assertEqual(own.distances(loops, one, other), sorted(found))

    def test_greater_bounds_touch_too(self):
        for loops, one, other in helpers.drawn_places(80, 2, 2, 4, 341):
            for signs in own.all_signs(loops, one, other):
                for more in itertools.product((0, 1, 5), repeat=2):
                    greater = tuple((name, bound + by) for (name, bound), by in zip(loops, more))
                    self.assertIs(own.touch_with(greater, one, other, signs), True)
                self.assertIn(signs, own.signs_at_all(one, other))

    def test_both_ways_about(self):
        for loops, one, other in helpers.drawn_places(80, 3, 2, 3, 342):
            turned = sorted(own.turned_signs(signs) for signs in own.all_signs(loops, one, other))
            self.assertEqual(own.all_signs(loops, other, one), turned)

    def test_as_wide_as_can_be(self):
        for bounds, numbers, mates in WIDE:
            loops = helpers.some_loops(bounds)
            width = sum((abs(one) + abs(two)) * bound for bound, one, two in zip(bounds, numbers, mates))
            self.assertLessEqual(width, 4000)
            orders = all_orders(len(bounds))
            values = {signs: wide_values(bounds, numbers, mates, signs) for signs in orders[::4] + orders[1:2]}
            for goal in (0, 1, -7, 111, -1000, 2000, 3900, GREAT, -GREAT):
                one, other = (numbers, 5), (mates, goal + 5)
                told = helpers.quickly(self, own.all_signs, loops, one, other)
                helpers.quickly(self, own.missed_signs, loops, one, other)
                helpers.quickly(self, own.carried_by, loops, one, other)
                for signs, found in values.items():
                    self.check_shown(loops, one, other, signs, goal in found)
                    self.assertIs(signs in told, goal in found)

    def test_ends_of_wide_ones(self):
        for bounds, numbers, mates in WIDE:
            loops = helpers.some_loops(bounds)
            for signs in all_orders(len(bounds))[::5]:
                found = wide_values(bounds, numbers, mates, signs)
                for goal in (min(found) - 1, min(found), max(found), max(found) + 1):
                    self.check_shown(loops, (numbers, 0), (mates, goal), signs, goal in found)

    def test_distances_of_many_rounds(self):
        for bounds, numbers, mates in (((199,), (0,), (0,)), ((60, 2), (30, 1), (30, 1)), ((4, 4, 7), (1, 1, 1), (1, 1, 1)),
                                       ((1, 99), (1, 0), (0, 0)), ((1, 1, 49), (20, 20, 20), (20, -20, 19)),
                                       ((4, 4, 7), (0, 0, 0), (0, 0, 0)), ((60, 2), (33, 10), (-32, 10))):
            loops = helpers.some_loops(bounds)
            self.assertLessEqual(nests.how_many_rounds(loops), 200)
            told = helpers.quickly(self, own.distances, loops, (numbers, GREAT), (mates, GREAT))
            found = {tuple(two - one for one, two in zip(counters, mates_of))
                     for counters, mates_of in helpers.walked_pairs(loops, (numbers, 0), (mates, 0))}
            self.assertEqual(told, sorted(found))

    def test_loops_that_are_in_no_place(self):
        loops = (("i", GREAT), ("j", 1), ("k", GREAT))
        one, other = ((0, 1, 0), 0), ((0, 1, 0), 1)
        self.assertEqual(own.all_signs(loops, one, other), ["<><", "<>=", "<>>", "=><", "=>=", "=>>", ">><", ">>=", ">>>"])
        self.assertEqual(own.carried_by(loops, one, other), ("i", "j"))
        self.assertEqual(own.carried_by(loops, one, one), ("i", "k"))
        self.assertEqual(own.carried_by((("z", 1), ("a", GREAT)), ((0, 0), 0), ((0, 0), 0)), ("a", "z"))

    def test_without_loops(self):
        same, other = ((), GREAT), ((), -GREAT)
        self.assertEqual(own.all_signs((), same, same), [""])
        self.assertEqual(own.all_signs((), same, other), [])
        self.assertEqual(own.signs_at_all(same, other), [])
        self.assertEqual(own.signs_at_all(same, same), [""])
        self.assertEqual(own.touching_with((), same, same, ""), ((), ()))
        self.assertIsNone(own.touching_with((), same, other, ""))
        self.assertIs(own.lets_with((), same, same, ""), True)
        self.assertIs(own.lets_with((), same, other, ""), False)
        self.assertEqual(own.missed_signs((), same, other), [])
        self.assertEqual(own.carried_by((), same, same), ())
        self.assertEqual(own.distances((), same, same), [()])
        self.assertEqual(own.distances((), same, other), [])
        self.assertIs(own.is_touching_with((), same, same, "", ((), ())), True)
        self.assertIs(own.is_touching_with((), same, other, "", ((), ())), False)


if __name__ == "__main__":
    unittest.main()
