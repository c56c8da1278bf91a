"""Places with several coordinates: points [3] and [11], and [1] (d)."""

import itertools
import math
import random
import unittest

from quickexact import nests
from quickexact import several as own
from quickexact.errors import Unfit
from tests import helpers

GREAT = 10 ** 40
WITH_BOTH = ("tests_each", "touch_all", "touching_all", "how_many_together", "shared_cells", "parted_by", "least_parting",
             "flattened")

# As many ROUNDS as there may be, just or nearly: bounds of loops.
MANY_ROUNDS = ((999,), (1, 499), (9, 99), (31, 30), (9, 9, 9), (1, 1, 249), (4, 9, 19))


def walked_cells(spot, counters):
    """The cells of a SPOT in a ROUND."""
    return tuple(helpers.walked_cell(place, counters) for place in spot)


def walked_together(loops, one, other):
    """All pairs of ROUNDS in which the cells of both are the same."""
    rounds = helpers.walked_rounds(loops)
    cells = [(mates, walked_cells(other, mates)) for mates in rounds]
    return [(counters, mates) for counters in rounds for mates, found in cells if walked_cells(one, counters) == found]


def drawn_spots(many_cases, many, coordinates, bound, most, seed):
    """LOOPS, so many, with two SPOTS of so many coordinates, from a told seed."""
    source = random.Random(seed)
    for _ in range(many_cases):
        loops = helpers.some_loops([source.randint(1, bound) for _ in range(many)])
        spots = []
        for _ in range(2):
            spots.append(tuple((tuple(source.choice((0, 1, source.randint(-most, most))) for _ in range(many)),
                                source.randint(-most, most)) for _ in range(coordinates)))
        yield loops, spots[0], spots[1]


def spot_cases():
    """Many small LOOPS with two SPOTS of them, from no loop and no coordinate on."""
    for loops in ((), (("i", 1),), (("j", 2), ("i", 1)), (("a", 1), ("b", 1), ("c", 2))):
        yield loops, (), ()
    for first, second in itertools.product(itertools.product((4, 5), repeat=2), repeat=2):
        yield (), tuple(((), number) for number in first), tuple(((), number) for number in second)
    for many in (1, 2, 3):
        for coordinates in (1, 2, 3, 4):
            yield from drawn_spots(40, many, coordinates, 3 if many < 3 else 2, 2, 400 + 10 * many + coordinates)
    for loops, one, other in drawn_spots(40, 2, 2, 4, 1, 451):
        yield loops, one, other
        yield loops, one, one
        yield loops, one, (other[0], one[1])
        # Great numbers, too: of a coordinate all taken as often, and moved.
        yield loops, *[tuple((tuple(GREAT * number for number in place[0]), GREAT - place[1]) for place in spot)
                       for spot in (one, other)]


class Kinds(unittest.TestCase):
    def test_spots_of_all_kinds(self):
        things = helpers.odd_nest_things()
        for many in range(4):
            loops = helpers.some_loops((1,) * many)
            form = helpers.place_form(many)
            for thing in things + [(thing,) for thing in things] + [(thing, thing) for thing in things]:
                is_told = helpers.has_form(thing, rf"\(({form},|{form}(, {form})*|)\)")
                self.assertIs(own.is_spot(loops, thing), is_told, thing)

    def test_spots_and_what_is_nearly_one(self):
        loops = (("i", GREAT), ("j", GREAT), ("k", GREAT))
        place = ((1, -GREAT, 0), 3 ** 999)
        for many in range(5):
            self.assertIs(own.is_spot(loops, (place,) * many), True)
            self.assertIs(own.is_spot(loops, [place] * many), False)
            self.assertIs(own.is_spot(loops[1:], (place,) * many), many == 0)
        # However many coordinates there are.
        self.assertIs(own.is_spot(loops, (place,) * 5), True)
        self.assertIs(own.is_spot(loops, (place,) * 60), True)
        for wrong in (((1, 2), 3), ((1, 2, 3), True), ((1, 2, False), 3), ([1, 2, 3], 4), [(1, 2, 3), 4], ((1, 2, 3),), None,
                      ((1, 2, 3), "4"), 5, (), ((1, 2, 3), 4, 5)):
            self.assertIs(own.is_spot(loops, (place, wrong)), False, wrong)
            self.assertIs(own.is_spot(loops, (wrong, place)), False, wrong)
        self.assertIs(own.is_spot((), (((), 4), ((), -GREAT))), True)
        self.assertIs(own.is_spot([["i", 1]], (((4,), 5),)), True)

    def test_cells_beside_a_walk(self):
        for loops, one, _ in spot_cases():
            for counters in helpers.walked_rounds(loops):
                self.assertEqual(own.cells_at(one, counters), walked_cells(one, counters))
        self.assertEqual(own.cells_at((((GREAT,), 1), ((-1,), -GREAT)), (GREAT,)), (GREAT ** 2 + 1, -2 * GREAT))

    def test_is_touching_all_beside_a_walk(self):
        for loops, one, other in itertools.islice(spot_cases(), 0, None, 5):
            pairs = walked_together(loops, one, other)
            for thing in itertools.product(helpers.walked_rounds(loops), repeat=2):
                self.assertIs(own.is_touching_all(loops, one, other, thing), thing in pairs)
            for counters, mates in pairs[:2]:
                for thing in ([counters, mates], (counters, list(mates)), (counters,), (counters, mates, mates), mates):
                    self.assertIs(own.is_touching_all(loops, one, other, thing), False)

    def test_is_touching_all_things_of_all_kinds(self):
        for many in range(4):
            loops = helpers.some_loops((1,) * many)
            spot = (((0,) * many, 3),)
            for thing in helpers.odd_nest_things():
                is_told = helpers.has_form(thing, helpers.pair_form(many))
                is_told = is_told and all(0 <= counter <= 1 for row in thing for counter in row)
                self.assertIs(own.is_touching_all(loops, spot, spot, thing), is_told, thing)
                self.assertIs(own.is_touching_all(loops, (), (), thing), is_told, thing)


class Unlike(unittest.TestCase):
    """SPOTS with unlike numbers of coordinates."""

    def test_each_function_raises(self):
        for loops, spots in (((), [(((), number),) * many for number, many in ((1, 0), (1, 1), (1, 2), (1, 4))]),
                             ((("i", 2),), [(((1,), 0),) * many for many in (0, 1, 3, 4)])):
            for one, other in itertools.permutations(spots, 2):
                for name in WITH_BOTH:
                    for told in ((loops, one, other), (list(loops), list(one), list(other))):
                        with self.subTest(name=name, one=one, other=other), self.assertRaises(Unfit) as caught:
                            getattr(own, name)(*told)
                        self.assertEqual(vars(caught.exception), {})

    def test_whatever_thing_is(self):
        loops = (("i", 1),)
        one, other = (((1,), 0),), (((1,), 0), ((1,), 0))
        things = helpers.odd_nest_things() + [((0,), (0,)), (((1,), 0), ((1,), 0))]
        for name in ("is_touching_all", "is_flattened"):
            for thing in things:
                for spots in ((one, other), (other, one), ((), one), (one, ())):
                    with self.assertRaises(Unfit):
                        getattr(own, name)(loops, *spots, thing)

    def test_ahead_of_all_else(self):
        # Even where the rest is not as it must be.
        for name in WITH_BOTH:
            with self.assertRaises(Unfit):
                getattr(own, name)((), (((1, 2), 3),), ())
            with self.assertRaises(Unfit):
                getattr(own, name)((("i", 5),), (), (None,))


class Together(unittest.TestCase):
    def check_shown(self, loops, one, other, pairs):
        told = own.touching_all(loops, one, other)
        self.assertIs(own.touch_all(loops, one, other), len(pairs) > 0)
        if not pairs:
            self.assertIsNone(told)
            return
        self.assertIn(told, pairs)
        self.assertIs(own.is_touching_all(loops, one, other, told), True)

    def test_beside_a_walk(self):
        touching = 0
        for loops, one, other in spot_cases():
            pairs = walked_together(loops, one, other)
            self.check_shown(loops, one, other, pairs)
            self.assertEqual(own.how_many_together(loops, one, other), len(pairs))
            cells = {walked_cells(one, counters) for counters, _ in pairs}
            self.assertEqual(own.shared_cells(loops, one, other), sorted(cells))
            touching += len(pairs) > 0
        self.assertGreater(touching, 100)

    def test_each_coordinate_beside_a_walk(self):
        for loops, one, other in spot_cases():
            lets = tuple(nests.may_touch(loops, place, mate) for place, mate in zip(one, other))
            self.assertEqual(own.tests_each(loops, one, other), lets)
            parted = tuple(at for at, (place, mate) in enumerate(zip(one, other))
                           if not helpers.walked_pairs(loops, place, mate))
            self.assertEqual(own.parted_by(loops, one, other), parted)
            if not all(lets):
                self.assertIs(own.touch_all(loops, one, other), False)
            for at in parted:
                self.assertIs(own.touch_all(loops, one, other), False)

    def test_least_parting_beside_a_walk(self):
        sizes = {}
        for loops, one, other in spot_cases():
            found = []
            for many in range(len(one) + 1):
                for kept in itertools.combinations(range(len(one)), many):
                    spots = [tuple(spot[at] for at in kept) for spot in (one, other)]
                    if not walked_together(loops, *spots):
                        found.append((many, kept))
            told = min(found)[1] if found else None
            self.assertEqual(own.least_parting(loops, one, other), told)
            sizes[None if told is None else len(told)] = True
        self.assertLessEqual({None, 1, 2}, set(sizes))

    def test_three_and_four_are_needed(self):
        loops = (("i", 2), ("j", 2), ("k", 2))
        first, second, third = ((1, 0, 0), 0), ((0, 1, 0), 0), ((0, 0, 1), 0)
        one, other = (first, first, second), (first, second, (second[0], 1))
        self.assertIsNone(own.least_parting(loops, one, other))
        # i, j and k are the same in both rounds; and then i, j and k together are not.
        one = (first, second, third, ((1, 1, 1), 0))
        other = (first, second, third, ((1, 1, 1), 1))
        self.assertEqual(own.least_parting(loops, one, other), (0, 1, 2, 3))
        self.assertEqual(own.parted_by(loops, one, other), ())
        one = (first, second, ((1, 1, 0), 0), ((0, 0, 0), 5))
        other = (first, second, ((1, 1, 0), 1), ((0, 0, 0), 5))
        self.assertEqual(own.least_parting(loops, one, other), (0, 1, 2))
        # Of several with as many the least one.
        one, other = (first, second, first, second), (first, second, (first[0], 1), (second[0], 1))
        self.assertEqual(own.least_parting(loops, one, other), (0, 2))

    def test_as_many_rounds_as_can_be(self):
        for bounds in MANY_ROUNDS:
            loops = helpers.some_loops(bounds)
            self.assertLessEqual(nests.how_many_rounds(loops), 1000)
            many = len(bounds)
            # The number of the round, and its last number: the one parts all rounds, the other one does not.
            weights = [1]
            for bound in bounds[:-1]:
                weights.append(weights[-1] * (bound + 1))
            by_round = (tuple(GREAT * weight for weight in weights), 1 - GREAT)
            last = ((0,) * (many - 1) + (1,), GREAT)
            same = ((0,) * many, 5)
            rounds = nests.how_many_rounds(loops)
            one = (by_round, last, same, same)
            for name in WITH_BOTH:
                helpers.quickly(self, getattr(own, name), loops, one, one)
            self.assertEqual(own.how_many_together(loops, one, one), rounds)
            self.assertEqual(own.how_many_together(loops, one[1:], one[1:]), rounds ** 2 // (bounds[-1] + 1))
            self.assertEqual(own.how_many_together(loops, one[2:], one[2:]), rounds ** 2)
            self.assertEqual(len(own.shared_cells(loops, one, one)), rounds)
            self.assertEqual(own.shared_cells(loops, one[2:], one[2:]), [(5, 5)])
            moved = (by_round, (last[0], GREAT + 1), same, same)
            self.assertIs(own.touch_all(loops, one, moved), False)
            self.assertEqual(helpers.quickly(self, own.least_parting, loops, one, moved), (0, 1))
            far = (by_round, last, same, ((0,) * many, 6))
            self.assertEqual(own.parted_by(loops, one, far), (3,))
            flat = own.flattened(loops, one, moved)
            self.assertIs(helpers.quickly(self, own.is_flattened, loops, one, moved, flat), True)
            self.assertIs(helpers.quickly(self, own.is_flattened, loops, one, one, flat), False)

    def test_tests_of_great_loops(self):
        loops = (("i", GREAT), ("j", GREAT))
        one = (((2, 0), 0), ((1, 1), 0), ((0, 0), 4), ((GREAT, -GREAT), 0))
        other = (((0, 2), 1), ((1, 1), 2 * GREAT), ((0, 0), 5), ((GREAT, GREAT), GREAT // 2))
        self.assertEqual(own.tests_each(loops, one, other), (False, True, False, False))
        self.assertEqual(own.tests_each(loops, one, one), (True, True, True, True))
        self.assertEqual(own.tests_each(loops, (), ()), ())

    def test_without_coordinates_and_loops(self):
        loops = (("i", 4), ("j", 1))
        self.assertIs(own.touch_all(loops, (), ()), True)
        self.assertEqual(own.how_many_together(loops, (), ()), 100)
        self.assertEqual(own.shared_cells(loops, (), ()), [()])
        self.assertEqual(own.parted_by(loops, (), ()), ())
        self.assertIsNone(own.least_parting(loops, (), ()))
        self.assertEqual(own.how_many_together((), (), ()), 1)
        self.assertEqual(own.touching_all((), (), ()), ((), ()))
        self.assertEqual(own.cells_at((), ()), ())
        self.assertEqual(own.least_parting((), (((), 1), ((), 2)), (((), 1), ((), 3))), (1,))


class Flattened(unittest.TestCase):
    def check(self, loops, one, other):
        told = own.flattened(loops, one, other)
        self.assertTrue(helpers.has_form(told, rf"\({helpers.place_form(len(loops))}, {helpers.place_form(len(loops))}\)"))
        self.assertEqual(helpers.walked_pairs(loops, *told), walked_together(loops, one, other))
        self.assertIs(own.is_flattened(loops, one, other, told), True)

    def test_beside_a_walk(self):
        for loops, one, other in spot_cases():
            self.check(loops, one, other)

    def test_is_flattened_beside_a_walk(self):
        told = {True: 0, False: 0}
        for loops, one, other in itertools.islice(spot_cases(), 0, None, 7):
            pairs = walked_together(loops, one, other)
            zeros = ((0,) * len(loops), 0)
            things = [own.flattened(loops, one, other), (zeros, zeros), (zeros, (zeros[0], 1)), (one[0], other[0]) if one else None]
            source = random.Random(11)
            for _ in range(20):
                things.append(tuple((tuple(source.randint(-9, 9) for _ in loops), source.randint(-3, 3)) for _ in range(2)))
            for thing in things:
                is_told = thing is not None and helpers.walked_pairs(loops, *thing) == pairs
                self.assertIs(own.is_flattened(loops, one, other, thing), is_told)
                told[is_told] += 1
        self.assertGreater(min(told.values()), 50)

    def test_as_many_pairs_that_are_others(self):
        loops = (("i", 1),)
        one, other = (((1,), 0),), (((1,), 0),)
        # As many pairs of rounds each, but the other way about.
        self.assertIs(own.is_flattened(loops, one, other, (((1,), 0), ((-1,), 1))), False)
        self.assertIs(own.is_flattened(loops, one, other, (((-5,), 3), ((-5,), 3))), True)
        self.assertIs(own.is_flattened(loops, one, other, (((-5,), 3), ((-5,), 8))), False)

    def test_things_of_all_kinds(self):
        for many in range(4):
            loops = helpers.some_loops((1,) * many)
            form = rf"\({helpers.place_form(many)}, {helpers.place_form(many)}\)"
            for thing in helpers.odd_nest_things():
                is_told = helpers.has_form(thing, form)
                is_told = is_told and helpers.walked_pairs(loops, *thing) == walked_together(loops, (), ())
                self.assertIs(own.is_flattened(loops, (), (), thing), is_told, thing)
        flat = (((4, 1), 0), ((1, 4), 1))
        loops, one, other = (("i", 1), ("j", 1)), (((1, 0), 0), ((0, 1), 0)), (((0, 1), 0), ((1, 0), 1))
        self.assertIs(own.is_flattened(loops, one, other, flat), True)
        for thing in (list(flat), (list(flat[0]), flat[1]), (flat[0],), flat + flat, (flat[0], None), (((4, True), 0), flat[1]),
                      (([4, 1], 0), flat[1]), (flat[0], ((1, 4, 0), 1)), (flat[0], ((1,), 1)), flat[0], None, ()):
            self.assertIs(own.is_flattened(loops, one, other, thing), False, thing)

    def test_great_loops(self):
        # What is the same cell in some pairs of rounds, and what is in none, is so in the flat ones.
        source = random.Random(12)
        for many, coordinates in itertools.product((1, 2, 3), (1, 2, 3, 4)):
            loops = helpers.some_loops([source.choice((1, 7, GREAT)) for _ in range(many)])
            for most in (1, 3, GREAT):
                for _ in range(6):
                    counters, mates = [tuple(source.choice((0, bound, source.randint(0, bound))) for _, bound in loops)
                                       for _ in range(2)]
                    one = tuple((tuple(source.randint(-most, most) for _ in loops), 0) for _ in range(coordinates))
                    other = tuple((tuple(source.randint(-most, most) for _ in loops), 0) for _ in range(coordinates))
                    # Now both have the same cells in these two rounds, but for what is added to them.
                    for added in itertools.product((0, 0, 1, -most), repeat=coordinates):
                        moved = tuple((place[0], first - second + more) for place, first, second, more
                                      in zip(other, walked_cells(one, counters), walked_cells(other, mates), added))
                        flat = own.flattened(loops, one, moved)
                        same = helpers.walked_cell(flat[0], counters) == helpers.walked_cell(flat[1], mates)
                        self.assertIs(same, not any(added))

    def test_ends_of_great_loops(self):
        # Coordinates that are as far apart as can be, each the other way about than the next one.
        loops = (("i", GREAT), ("j", GREAT))
        one = (((GREAT, 0), 0), ((0, -GREAT), GREAT), ((1, 1), -GREAT))
        other = (((0, -GREAT), 0), ((GREAT, 0), 0), ((-1, -1), GREAT))
        flat = helpers.quickly(self, own.flattened, loops, one, other)
        for counters in itertools.product((0, 1, 2, GREAT - 1, GREAT), repeat=2):
            for mates in itertools.product((0, 1, GREAT - 2, GREAT), repeat=2):
                same = walked_cells(one, counters) == walked_cells(other, mates)
                self.assertIs(helpers.walked_cell(flat[0], counters) == helpers.walked_cell(flat[1], mates), same)

    def test_what_is_told_is_passed_in_again(self):
        loops = (("i", 3), ("j", 2))
        for _, one, other in drawn_spots(20, 2, 3, 1, GREAT, 461):
            flat = own.flattened(loops, one, other)
            self.assertIs(nests.is_place(loops, flat[0]), True)
            self.assertEqual(own.how_many_together(loops, flat[:1], flat[1:]), own.how_many_together(loops, one, other))
            self.assertIs(own.is_flattened(loops, flat[:1], flat[1:], own.flattened(loops, flat[:1], flat[1:])), True)
            self.assertEqual(nests.equation_of(loops, *flat)[2], flat[1][1] - flat[0][1])


if __name__ == "__main__":
    unittest.main()
