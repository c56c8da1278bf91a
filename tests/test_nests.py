"""Two places of nested loops: points [3] and [9]."""

import itertools
import math
import unittest

from quickexact import nests as own
from quickexact import sums
from tests import helpers

GREAT = 10 ** 40

# Coefficients and bounds of the equation as great as they may be, or a width of 4,000, just or nearly; loops that are
# in no place, or in one of them, with whatever bounds.
WIDE = (
    ((60,), (33,), (-33,)), ((60,), (60,), (6,)), ((33, 34), (60, 0), (0, 59)), ((60, 60, 60), (11, -11, 11), (11, 11, -11)),
    ((11, 12, 11), (60, 59, -58), (57, 56, 55)), ((60, 1, 1), (60, 1, 2), (-6, 9, 28)), ((60, 60, 60), (1, 2, 3), (0, 60, 0)),
    ((GREAT, 33, 60), (0, 60, 0), (0, 0, 33)), ((60, GREAT, GREAT), (6, 0, 0), (-60, 0, 0)), ((GREAT,), (0,), (0,)),
    ((GREAT, GREAT - 1, 7 * GREAT // 9), (0, 0, 0), (0, 0, 0)),
)


def is_name(text):
    """Whether it is a NAME, as the document tells it."""
    return 1 <= len(text) <= 8 and set(text) <= set("abcdefghijklmnopqrstuvwxyz")


class Kinds(unittest.TestCase):
    """is_loops, is_place, is_round and is_touching."""

    def test_loops_of_all_kinds(self):
        for loops, _, _ in helpers.nest_cases():
            self.assertIs(own.is_loops(loops), True)
            for thing in (list(loops), loops + (loops,), ("i",) + loops, tuple([list(loop) for loop in loops]) or []):
                self.assertIs(own.is_loops(thing), False, thing)
        form = r"\('[a-z]{1,8}', [1-9][0-9]*\)"
        for thing in helpers.odd_nest_things():
            many = len(thing) if isinstance(thing, tuple) else 0
            is_told = helpers.has_form(thing, r"\((" + form + r",|" + form + "(, " + form + r"){1,2}|)\)")
            is_told = is_told and len({name for name, _ in thing}) == many
            self.assertIs(own.is_loops(thing), is_told, thing)

    def test_names_of_loops(self):
        for name in ("a", "z", "abcdefgh", "zzzzzzzz", "", "abcdefghi", "A", "aB", "a1", "a_", "a ", " a", "a\n", "\u00e9",
                     "\u0430", "{", "`", "a-b"):
            self.assertIs(own.is_loops(((name, 1),)), is_name(name), name)
            self.assertIs(own.is_loops((("k", 2), (name, 1))), is_name(name), name)
        for name in (None, 1, True, b"i", ("i",), ["i"], ()):
            self.assertIs(own.is_loops(((name, 1),)), False, name)

    def test_bounds_of_loops_and_how_many(self):
        for bound in (1, 2, 60, 61, GREAT, GREAT + 1, 7 ** 900):
            self.assertIs(own.is_loops((("i", bound), ("j", 1))), True)
        for bound in (0, -1, -GREAT, True, False, None, "1", (1,), [1], 1.0):
            self.assertIs(own.is_loops((("i", bound), ("j", 1))), False, bound)
        names = ("a", "b", "c", "d")
        for many in range(5):
            self.assertIs(own.is_loops(tuple((name, 1) for name in names[:many])), many <= 3)
        for thing in itertools.product((("i", 1), ("j", 1), ("i", 2)), repeat=3):
            self.assertIs(own.is_loops(thing), len({name for name, _ in thing}) == 3)

    def test_places_and_rounds_of_all_kinds(self):
        things = helpers.odd_nest_things()
        for many in range(4):
            loops = helpers.some_loops((1,) * many)
            for thing in things:
                self.assertIs(own.is_place(loops, thing), helpers.has_form(thing, helpers.place_form(many)), thing)
                is_told = helpers.has_form(thing, helpers.row_form(many)) and all(0 <= one <= 1 for one in thing)
                self.assertIs(own.is_round(loops, thing), is_told, thing)
                is_told = helpers.has_form(thing, helpers.pair_form(many))
                is_told = is_told and all(0 <= one <= 1 for row in thing for one in row)
                self.assertIs(own.is_touching(loops, ((0,) * many, 1), ((0,) * many, 1), thing), is_told, thing)
                self.assertIs(own.is_touching(loops, ((0,) * many, 1), ((0,) * many, 2), thing), False, thing)

    def test_numbers_of_places_are_any(self):
        loops = (("i", 1), ("j", 2))
        for number in (0, -1, GREAT, -GREAT - 1, 3 ** 999):
            self.assertIs(own.is_place(loops, ((number, 0), -number)), True)
        for thing in (((1, 2), 3.0), ((1, 2.0), 3), ((1, 2), 3, 4), ((1, 2),), ((1, 2, 3), 4), ((1,), 2), ([1, 2], 3),
                      [(1, 2), 3], ((1, True), 3), ((1, 2), True), ((1, "2"), 3), ((1, 2), None), (1, 2, 3), (3, (1, 2))):
            self.assertIs(own.is_place(loops, thing), False, thing)
        self.assertIs(own.is_place([["i", 1], ["j", 2]], ((1, 2), 3)), True)

    def test_rounds_beside_all(self):
        for loops in ((), (("i", 2),), (("i", 2), ("j", 1)), (("i", 1), ("j", 3), ("k", 1))):
            rounds = helpers.walked_rounds(loops)
            for thing in itertools.product(range(-1, 5), repeat=len(loops)):
                self.assertIs(own.is_round(loops, thing), thing in rounds)
                self.assertIs(own.is_round(loops, list(thing)), False)
                self.assertIs(own.is_round(loops, thing + (0,)), False)
        self.assertIs(own.is_round((("i", GREAT),), (GREAT,)), True)
        self.assertIs(own.is_round((("i", GREAT),), (GREAT + 1,)), False)

    def test_is_touching_beside_a_walk(self):
        for loops, one, other in itertools.islice(helpers.nest_cases(), 0, None, 9):
            pairs = helpers.walked_pairs(loops, one, other)
            for thing in itertools.product(helpers.walked_rounds(loops), repeat=2):
                self.assertIs(own.is_touching(loops, one, other, thing), thing in pairs)
            for counters, mates in pairs[:3]:
                for thing in ([counters, mates], (counters, list(mates)), (counters,), (counters, mates, mates), counters):
                    self.assertIs(own.is_touching(loops, one, other, thing), False)

    def test_is_touching_of_great_ones(self):
        loops = (("i", GREAT), ("j", GREAT))
        one, other = ((GREAT, 1), -GREAT), ((0, GREAT), GREAT ** 2 - GREAT)
        self.assertIs(own.is_touching(loops, one, other, ((GREAT, 0), (5, 0))), True)
        self.assertIs(own.is_touching(loops, one, other, ((GREAT - 1, GREAT), (0, 0))), True)
        self.assertIs(own.is_touching(loops, one, other, ((GREAT, 1), (5, 0))), False)
        self.assertIs(own.is_touching(loops, one, other, ((GREAT + 1, 0), (5, 1))), False)
        self.assertIs(own.is_touching(loops, one, other, ((GREAT, GREAT), (GREAT, 1))), True)


class Equations(unittest.TestCase):
    def test_rounds_and_cells(self):
        for loops, one, _ in helpers.nest_cases():
            rounds = helpers.walked_rounds(loops)
            self.assertEqual(own.how_many_rounds(loops), len(rounds))
            for counters in rounds:
                self.assertEqual(own.cell_at(one, counters), helpers.walked_cell(one, counters))
        self.assertEqual(own.how_many_rounds((("i", GREAT), ("j", GREAT), ("k", 1))), 2 * (GREAT + 1) ** 2)
        self.assertEqual(own.cell_at(((GREAT, -1, 0), 5), (GREAT, 7, GREAT)), GREAT ** 2 - 2)
        self.assertEqual(own.cell_at(((), -GREAT), ()), -GREAT)

    def test_equations_beside_their_words(self):
        for loops, one, other in helpers.nest_cases():
            rows = [(number, bound) for number, (_, bound) in zip(one[0], loops)]
            rows += [(-number, bound) for number, (_, bound) in zip(other[0], loops)]
            rows = [row for row in rows if row[0] != 0]
            told = own.equation_of(loops, one, other)
            self.assertEqual(told, (tuple(row[0] for row in rows), tuple(row[1] for row in rows), other[1] - one[1]))
            self.assertIs(sums.is_coefficients(told[0]), True)
            self.assertIs(sums.is_bounds(told[0], told[1]), True)

    def test_equations_tell_who_touches(self):
        for loops, one, other in helpers.nest_cases():
            coefficients, bounds, number = own.equation_of(loops, one, other)
            comes = number in helpers.walked_sums(coefficients, bounds)
            self.assertIs(len(helpers.walked_pairs(loops, one, other)) > 0, comes)

    def test_may_touch_beside_its_words(self):
        for loops, one, other in helpers.nest_cases():
            coefficients, bounds, number = own.equation_of(loops, one, other)
            least = sum(min(0, own_one * bound) for own_one, bound in zip(coefficients, bounds))
            greatest = sum(max(0, own_one * bound) for own_one, bound in zip(coefficients, bounds))
            common = math.gcd(*coefficients)
            lets = least <= number <= greatest and (number % common == 0 if common else number == 0)
            self.assertIs(own.may_touch(loops, one, other), lets)

    def test_great_ones(self):
        loops = (("i", GREAT), ("j", 3), ("k", GREAT))
        one, other = ((GREAT, 0, -GREAT), GREAT), ((-GREAT, 5, 0), -GREAT)
        self.assertEqual(own.equation_of(loops, one, other),
                         ((GREAT, -GREAT, GREAT, -5), (GREAT, GREAT, GREAT, 3), -2 * GREAT))
        self.assertIs(own.may_touch(loops, one, other), True)
        self.assertIs(own.may_touch(loops, one, ((-GREAT, 5, 0), 1)), False)
        self.assertIs(own.may_touch(loops, one, ((-GREAT, 5, 0), -GREAT ** 2 + GREAT - 15)), True)
        self.assertIs(own.may_touch(loops, one, ((-GREAT, 5, 0), -GREAT ** 2 + GREAT - 20)), False)
        self.assertIs(own.may_touch(loops, one, ((-GREAT, 5, 0), 2 * GREAT ** 2 + GREAT)), True)
        self.assertIs(own.may_touch(loops, one, ((-GREAT, 5, 0), 2 * GREAT ** 2 + GREAT + 5)), False)


class Touches(unittest.TestCase):
    def check_shown(self, loops, one, other, touches):
        told = own.touching(loops, one, other)
        self.assertIs(own.touch(loops, one, other), touches)
        if not touches:
            self.assertIsNone(told)
            return
        self.assertTrue(helpers.has_form(told, helpers.pair_form(len(loops))))
        self.assertIs(own.is_touching(loops, one, other, told), True)
        for row in told:
            self.assertTrue(all(0 <= counter <= bound for counter, (_, bound) in zip(row, loops)))
        self.assertEqual(helpers.walked_cell(one, told[0]), helpers.walked_cell(other, told[1]))

    def test_beside_a_walk(self):
        for loops, one, other in helpers.nest_cases():
            pairs = helpers.walked_pairs(loops, one, other)
            self.check_shown(loops, one, other, len(pairs) > 0)
            self.assertEqual(own.how_many_touchings(loops, one, other), len(pairs), (loops, one, other))
            if pairs:
                self.assertIs(own.may_touch(loops, one, other), True)

    def test_cells_beside_a_walk(self):
        for loops, one, other in helpers.nest_cases():
            for place in (one, other):
                rounds = helpers.walked_rounds(loops)
                cells = {helpers.walked_cell(place, counters) for counters in rounds}
                self.assertEqual(own.cells_of(loops, place), sorted(cells))
                touches = any(one != two for one, two in helpers.walked_pairs(loops, place, place))
                self.assertIs(own.touches_itself(loops, place), touches)
                self.assertIs(touches, len(cells) < len(rounds))

    def test_a_place_with_itself_touches(self):
        for loops, one, _ in helpers.nest_cases():
            self.assertIs(own.touch(loops, one, one), True)
            self.assertGreaterEqual(own.how_many_touchings(loops, one, one), own.how_many_rounds(loops))

    def test_greater_bounds_touch_too(self):
        for loops, one, other in helpers.drawn_places(150, 2, 3, 5, 311):
            if own.touch(loops, one, other):
                for more in itertools.product((0, 1, 4), repeat=2):
                    greater = tuple((name, bound + by) for (name, bound), by in zip(loops, more))
                    self.assertIs(own.touch(greater, one, other), True)

    def test_as_wide_as_can_be(self):
        for bounds, numbers, others in WIDE:
            loops = helpers.some_loops(bounds)
            coefficients = [number for number in numbers + tuple(-number for number in others) if number]
            own_bounds = [bound for number, bound in zip(numbers + others, bounds * 2) if number]
            width = sum(abs(number) * bound for number, bound in zip(coefficients, own_bounds))
            self.assertLessEqual(width, 4000)
            free = math.prod(bound + 1 for number, bound in zip(numbers + others, bounds * 2) if number == 0)
            counts = helpers.walked_counts(coefficients, own_bounds)
            for goal in (min(counts) - 1, min(counts), 0, 1, 7, max(counts) // 2, max(counts) - 1, max(counts), GREAT, -GREAT):
                for start in (0, GREAT - 4000):
                    one, other = (numbers, start), (others, start + goal)
                    helpers.quickly(self, own.touching, loops, one, other)
                    self.check_shown(loops, one, other, goal in counts)
                    many = helpers.quickly(self, own.how_many_touchings, loops, one, other)
                    self.assertEqual(many, counts.get(goal, 0) * free)

    def test_cells_as_wide_as_can_be(self):
        for bounds, numbers, more in (((60,), (60,), 0), ((60, 6), (60, -60), 5), ((60, 33, 1), (-7, 59, 60), GREAT),
                                      ((33, 60, 17), (60, -1, 58), -GREAT), ((GREAT, 60, GREAT), (0, -60, 0), 1),
                                      ((GREAT,), (0,), -4), ((60, 60), (1, 60), 0), ((59, 60), (1, 60), -GREAT)):
            loops = helpers.some_loops(bounds)
            kept = [(number, bound) for number, bound in zip(numbers, bounds) if number]
            found = helpers.walked_sums([row[0] for row in kept], [row[1] for row in kept])
            cells = helpers.quickly(self, own.cells_of, loops, (numbers, more))
            self.assertEqual(cells, sorted(total + more for total in found))
            touches = helpers.quickly(self, own.touches_itself, loops, (numbers, more))
            self.assertIs(touches, len(cells) < math.prod(bound + 1 for bound in bounds))

    def test_without_loops(self):
        for number, mate in ((4, 4), (4, 5), (-GREAT, -GREAT), (-GREAT, GREAT), (0, 0)):
            one, other = ((), number), ((), mate)
            self.assertIs(own.touch((), one, other), number == mate)
            self.assertIs(own.may_touch((), one, other), number == mate)
            self.assertEqual(own.touching((), one, other), ((), ()) if number == mate else None)
            self.assertEqual(own.how_many_touchings((), one, other), 1 if number == mate else 0)
            self.assertEqual(own.cells_of((), one), [number])
            self.assertIs(own.touches_itself((), one), False)
            self.assertEqual(own.equation_of((), one, other), ((), (), mate - number))


if __name__ == "__main__":
    unittest.main()
