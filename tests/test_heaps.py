"""Heaps and gaps: points [3] and [6]."""

import itertools
import math
import unittest

from quickexact import heaps as own
from quickexact.errors import NoCounter
from tests import helpers

GREAT = 10 ** 40

# As great as [6] lets them be.
GREATEST = (
    (200,), (-200,), (200, -200), (199, 200), (-199, -200), (200, 199, -198), (-200,) * 6, (200, 198, 196, 194, 192, 190),
    (199, 197, 193, 191, -181, 179), (200, 150, 120, 90, 75, 8), (128, 192, 160, 200, 72, 199), (197, 199, 199, 199, 200, 200),
    (1, 200, 200, 200, 200, 200), (2, -199, 200, 198, 4, 6),
)


def heap_cases():
    """Many small COEFFICIENTS, () ahead of all."""
    yield ()
    for one in helpers.sizes_to(9):
        yield (one,)
    yield from itertools.product((-9, -6, -4, 1, 2, 3, 5, 7, 8), repeat=2)
    for many, seed in ((3, 101), (4, 102), (5, 103), (6, 104)):
        for coefficients, _ in helpers.drawn_cases(60, many, 12, 1, seed):
            yield coefficients
    # Common divisors above 1, and few small ones, are rare among drawn numbers.
    for factor in (2, 3, 5):
        for coefficients, _ in helpers.drawn_cases(40, 3, 7, 1, 110 + factor):
            yield tuple(factor * one for one in coefficients)
    yield from itertools.combinations((6, 7, 8, 9, 10, 11, 12), 3)
    yield from ((6, 10, 15), (15, -10, 6), (6, 10, 16, 15), (4, 6, 9), (12, 18, 27, 8), (5, 6, 7, 8, 9), (11, 12, 13))


def all_counts(coefficients, number):
    """All COUNTS of the number, by trying each tuple that is not too great."""
    ranges = [range(number // abs(one) + 1) for one in coefficients]
    found = []
    for counts in itertools.product(*ranges):
        if sum(abs(one) * count for one, count in zip(coefficients, counts)) == number:
            found.append(counts)
    return found


def fewest_by_adding(coefficients, most):
    """For each number to most the least number of coefficients that make it; None if none do."""
    found = {0: 0}
    many = 0
    edge = {0}
    while edge:
        many += 1
        edge = {number + abs(one) for number in edge for one in coefficients}
        edge = {number for number in edge if number <= most and number not in found}
        found.update({number: many for number in edge})
    return [found.get(number) for number in range(most + 1)]


class Heaps(unittest.TestCase):
    def test_beside_adding_up(self):
        for coefficients in heap_cases():
            beyond = helpers.all_gaps_to(coefficients)
            found = helpers.walked_heaps(coefficients, beyond + 5)
            for number in range(-5, beyond + 6):
                told = own.is_heap(coefficients, number)
                self.assertIs(told, number >= 0 and found[number], (coefficients, number))

    def test_great_numbers(self):
        for coefficients in heap_cases():
            common = math.gcd(*coefficients)
            for number in range(GREAT - 7, GREAT + 1):
                told = common != 0 and number % common == 0
                self.assertIs(own.is_heap(coefficients, number), told)
                self.assertIs(own.is_heap(coefficients, -number), False)

    def test_nothing(self):
        self.assertEqual([own.is_heap((), number) for number in (-1, 0, 1, GREAT, -GREAT)], [False, True] + [False] * 3)
        self.assertEqual(own.gaps(()), [])
        self.assertEqual(own.how_many_gaps(()), 0)
        self.assertIsNone(own.greatest_gap(()))
        self.assertIs(own.is_halved(()), True)
        self.assertEqual([own.heap_counts((), number) for number in (-1, 0, 1)], [None, (), None])
        self.assertEqual([own.fewest_counts((), number) for number in (-1, 0, 1, 4000)], [None, 0, None, None])
        self.assertEqual(own.needless(()), ())
        self.assertEqual(own.bare_coefficients(()), ())
        self.assertIs(own.same_heaps((), ()), True)

    def test_one(self):
        for one in (1, -1, 7, -7, 200, -200):
            self.assertEqual(own.gaps((one,)), [])
            self.assertIsNone(own.greatest_gap((one,)))
            self.assertIs(own.is_halved((one,)), True)
            self.assertEqual(own.bare_coefficients((one,)), (abs(one),))
            self.assertEqual(own.needless((one,)), ())
            self.assertEqual(own.heap_counts((one,), 3 * abs(one)), (3,))
            self.assertEqual(own.least_in_class((one,), 0, -abs(one)), 0)
            self.assertEqual(own.least_in_class((one,), 0, 1), 0 if abs(one) == 1 else None)


class Gaps(unittest.TestCase):
    def test_beside_adding_up(self):
        for coefficients in heap_cases():
            gaps = helpers.walked_gaps(coefficients)
            self.assertEqual(own.gaps(coefficients), gaps, coefficients)
            self.assertEqual(own.how_many_gaps(coefficients), len(gaps))
            self.assertEqual(own.greatest_gap(coefficients), gaps[-1] if gaps else None)

    def test_two_without_a_common_divisor(self):
        for one, other in itertools.combinations(range(2, 41), 2):
            if math.gcd(one, other) == 1:
                last = one * other - one - other
                self.assertEqual(own.greatest_gap((one, -other)), last)
                self.assertEqual(own.how_many_gaps((-other, one)), (last + 1) // 2)
                self.assertIs(own.is_halved((-one, other)), True)
                self.assertEqual(own.gaps((3 * one, 3 * other)), [3 * gap for gap in own.gaps((other, one))])

    def test_returned_lists_are_new(self):
        first = own.gaps((3, 5))
        first.append(99)
        self.assertEqual(own.gaps((3, 5)), [1, 2, 4, 7])


class Classes(unittest.TestCase):
    def test_beside_adding_up(self):
        for coefficients in heap_cases():
            beyond = helpers.all_gaps_to(coefficients) + 12 * 5
            found = [number for number, is_heap in enumerate(helpers.walked_heaps(coefficients, beyond)) if is_heap]
            for place, one in enumerate(coefficients):
                least = {}
                for number in found:
                    least.setdefault(number % abs(one), number)
                for number in (*range(-abs(one) - 1, 2 * abs(one) + 1), GREAT, GREAT + 1, -GREAT, 1 - GREAT):
                    told = own.least_in_class(coefficients, place, number)
                    self.assertEqual(told, least.get(number % abs(one)), (coefficients, place, number))

    def test_guarantees(self):
        for coefficients in heap_cases():
            for place, one in enumerate(coefficients):
                least = [own.least_in_class(coefficients, place, number) for number in range(abs(one))]
                for number in range(-3, 60):
                    first = least[number % abs(one)]
                    self.assertIs(own.is_heap(coefficients, number), first is not None and number >= first)
                last = max(first for first in least if first is not None) - abs(one)
                self.assertEqual(own.greatest_gap(coefficients), last if last > 0 else None)

    def test_places_that_no_counter_has(self):
        for coefficients in ((), (3,), (3, 5), [3, 5], (0, 5), (200,) * 6):
            many = len(coefficients)
            for place in (-GREAT, -many - 1, -many, -1, many, many + 1, GREAT):
                for number in (0, 1, -GREAT):
                    if not 0 <= place < many:
                        with self.assertRaises(NoCounter) as caught:
                            own.least_in_class(coefficients, place, number)
                        self.assertEqual(vars(caught.exception), {"place": place})


class Halved(unittest.TestCase):
    def test_beside_its_words(self):
        told = {True: 0, False: 0}
        for coefficients in heap_cases():
            gaps = helpers.walked_gaps(coefficients)
            halved = True
            if gaps:
                common = math.gcd(*coefficients)
                for number in range(-9 * common, gaps[-1] + 10 * common, common):
                    pair = (number, gaps[-1] - number)
                    halved = halved and [one >= 0 and one not in gaps for one in pair].count(True) == 1
            self.assertIs(own.is_halved(coefficients), halved, coefficients)
            told[halved] += 1
        self.assertGreater(min(told.values()), 30)

    def test_both_halves_alike(self):
        # 2 and 2 make 4, 4 and 4 make 8: none of both comes.
        for coefficients in ((3, 5, 7), (5, 6, 7, 9), (6, 10, 14)):
            self.assertIs(own.is_halved(coefficients), False)


class Counts(unittest.TestCase):
    def test_beside_trying_all(self):
        for coefficients in heap_cases():
            if len(coefficients) > 4:
                continue
            for number in (0, 1, 2, 3, 5, 8, 13, 17, 24, 30):
                found = all_counts(coefficients, number)
                told = own.heap_counts(coefficients, number)
                fewest = own.fewest_counts(coefficients, number)
                if found == []:
                    self.assertIsNone(told)
                    self.assertIsNone(fewest)
                else:
                    self.assertIsInstance(told, tuple)
                    self.assertIn(told, found)
                    self.assertEqual(fewest, min(sum(counts) for counts in found))

    def test_all_that_are_told_are_counts(self):
        for coefficients in (*heap_cases(), *GREATEST):
            for number in (*range(-3, 70), 3999, 4000, GREAT, GREAT + 1, -GREAT):
                told = own.heap_counts(coefficients, number)
                self.assertIs(told is not None, own.is_heap(coefficients, number))
                if told is not None:
                    self.assertIs(own.is_heap_counts(coefficients, number, told), True)
                    self.assertTrue(all(count >= 0 for count in told))
                    self.assertEqual(sum(abs(one) * count for one, count in zip(coefficients, told)), number)

    def test_fewest_beside_adding_up(self):
        for coefficients in itertools.islice(heap_cases(), 0, None, 5):
            fewest = fewest_by_adding(coefficients, 600)
            for number, many in enumerate(fewest):
                self.assertEqual(own.fewest_counts(coefficients, number), many, (coefficients, number))
        for coefficients in GREATEST:
            fewest = fewest_by_adding(coefficients, 4000)
            for number in (0, 1, 199, 200, 201, 398, 399, 400, 1234, 2222, 3333, 3998, 3999, 4000):
                self.assertEqual(own.fewest_counts(coefficients, number), fewest[number], (coefficients, number))
            for number in (-1, -200, -4000, -GREAT):
                self.assertIsNone(own.fewest_counts(coefficients, number))

    def test_fewest_of_what_was_returned(self):
        # Least ones of a class, and gaps, may be above 4,000.
        first = own.least_in_class((199, 200), 0, -1)
        self.assertEqual(first, 198 * 200)
        self.assertEqual(own.fewest_counts((199, 200), first), 198)
        self.assertIsNone(own.fewest_counts((199, 200), own.greatest_gap((199, 200))))

    def test_counts_of_told_numbers(self):
        self.assertIs(own.is_heap_counts((), 0, ()), True)
        self.assertIs(own.is_heap_counts((), 1, ()), False)
        self.assertIs(own.is_heap_counts((), 0, (0,)), False)
        for coefficients in ((3, -5), [3, -5], (-3, 5)):
            for first in range(-3, 8):
                for second in range(-3, 8):
                    for number in (0, 1, 8, 11, 15, -8):
                        is_told = first >= 0 and second >= 0 and 3 * first + 5 * second == number
                        told = own.is_heap_counts(coefficients, number, (first, second))
                        self.assertIs(told, is_told)
            self.assertIs(own.is_heap_counts(coefficients, 15 * GREAT, (5 * GREAT, 0)), True)
            self.assertIs(own.is_heap_counts(coefficients, 15 * GREAT, (5 * GREAT, 1)), False)
            self.assertIs(own.is_heap_counts(coefficients, 0, (5 * GREAT, -3 * GREAT)), False)
            for thing in ([2, 1], (2, True), (2,), (2, 1, 0), ((2, 1),), (11,), ("2", "1"), (2, None), "21", 11, None):
                self.assertIs(own.is_heap_counts(coefficients, 11, thing), False)

    def test_things_of_all_kinds(self):
        for coefficients in ((), (1,), (1, 1), (1, -2), (1, 2, 3)):
            for number in (0, 1, 2, 3, 6):
                for thing in helpers.odd_things():
                    self.assertIs(own.is_heap_counts(coefficients, number, thing), False, thing)


class Bare(unittest.TestCase):
    def test_needless_beside_adding_up(self):
        for coefficients in heap_cases():
            beyond = helpers.all_gaps_to(coefficients)
            found = helpers.walked_heaps(coefficients, beyond)
            needless = []
            for place in range(len(coefficients)):
                left = coefficients[:place] + coefficients[place + 1:]
                if helpers.walked_heaps(left, beyond) == found:
                    needless.append(place)
            self.assertEqual(own.needless(coefficients), tuple(needless), coefficients)

    def test_bare_beside_trying_all(self):
        lists = [(), (1,), (-4,), (7, 7), (2, 3), (4, 6), (3, 5, 7), (6, 4, 2), (3, -6, 8, 5), (5, 6, 7, 8, 4, -8)]
        lists += list(itertools.product((-6, 2, 3, 5, 8), repeat=3))
        for coefficients in lists:
            found = helpers.walked_heaps(coefficients, 70)
            greatest = max([abs(one) for one in coefficients], default=0)
            for many in range(greatest + 1):
                tries = [one for one in itertools.combinations(range(1, greatest + 1), many)
                         if helpers.walked_heaps(one, 70) == found]
                if tries:
                    break
            self.assertEqual(tries, [own.bare_coefficients(coefficients)])

    def test_bare_keeps_the_heaps_and_only_what_it_needs(self):
        for coefficients in (*heap_cases(), *GREATEST):
            bare = own.bare_coefficients(coefficients)
            self.assertEqual(bare, tuple(sorted(set(bare))))
            self.assertLessEqual(set(bare), {abs(one) for one in coefficients})
            self.assertEqual(own.needless(bare), ())
            self.assertIs(own.same_heaps(bare, coefficients), True)
            beyond = helpers.all_gaps_to(coefficients)
            self.assertEqual(helpers.walked_heaps(bare, beyond), helpers.walked_heaps(coefficients, beyond))

    def test_same_heaps_beside_adding_up(self):
        lists = [(), (1,), (-1, 5), (2,), (2, 3), (3, 2, 7), (2, -3, 3), (4, 6), (6, 4, 10), (3, 5), (3, 5, 7), (3, 5, 8),
                 (3, 5, -7, 10), (6, 10, 15), (15, 16, 10, 6), (12, -2), (200, 199), (-200, 199, 199), (200, 199, 198)]
        found = {one: helpers.walked_heaps(one, 40100) for one in lists}
        for one, other in itertools.product(lists, repeat=2):
            self.assertIs(own.same_heaps(one, other), found[one] == found[other], (one, other))


class GreatInputs(unittest.TestCase):
    """COEFFICIENTS as great as they may be, beside adding up, and each answer within a few seconds."""

    def test_gaps(self):
        for coefficients in GREATEST:
            gaps = helpers.walked_gaps(coefficients)
            self.assertEqual(helpers.quickly(self, own.gaps, coefficients), gaps)
            self.assertEqual(helpers.quickly(self, own.how_many_gaps, coefficients), len(gaps))
            self.assertEqual(helpers.quickly(self, own.greatest_gap, coefficients), gaps[-1] if gaps else None)

    def test_the_others(self):
        for coefficients in GREATEST:
            found = helpers.walked_heaps(coefficients, 40200)
            for number in (39400, 39401, 39402, 39601, 40000, 40199):
                self.assertIs(helpers.quickly(self, own.is_heap, coefficients, number), found[number])
                self.assertIs(helpers.quickly(self, own.heap_counts, coefficients, number) is None, not found[number])
            for place, one in enumerate(coefficients):
                first = helpers.quickly(self, own.least_in_class, coefficients, place, GREAT - 1)
                same = [number for number in range((GREAT - 1) % abs(one), 40200, abs(one)) if found[number]]
                self.assertEqual(first, same[0] if same else None)
            gaps = helpers.walked_gaps(coefficients)
            pairs = range(0, gaps[-1] + 1 if gaps else 0, math.gcd(*coefficients))
            halved = all(found[number] != found[gaps[-1] - number] for number in pairs)
            self.assertIs(helpers.quickly(self, own.is_halved, coefficients), halved)
            helpers.quickly(self, own.fewest_counts, coefficients, 4000)
            helpers.quickly(self, own.needless, coefficients)
            helpers.quickly(self, own.same_heaps, coefficients, coefficients[::-1])
        self.assertIs(own.is_halved((199, 200)), True)
        self.assertIs(own.is_halved((199, 197, 193, 191, -181, 179)), False)


if __name__ == "__main__":
    unittest.main()
