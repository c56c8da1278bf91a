"""What coefficients make, each taken as often as one likes: point [6]."""

from heapq import heappop, heappush

from quickexact.exact import check_counter, without
from quickexact.sums import step, sum_of
from quickexact.things import is_numbers


def sizes_of(coefficients):
    """The absolute values of the coefficients, as a list."""
    return [abs(one) for one in coefficients]


def least_ones(sizes, divisor):
    """For each remainder by the divisor, the least one of the HEAPS that has it; None if none has."""
    found = [None] * divisor
    queue = [0]
    while len(queue) > 0:
        number = heappop(queue)
        # They come ascending: who comes first is the least one, and no other one leads further.
        if found[number % divisor] is None:
            found[number % divisor] = number
            for size in sizes:
                heappush(queue, number + size)
    return found


def firsts_of(coefficients):
    """The least ones of the HEAPS by the least absolute value; [] for ()."""
    sizes = sizes_of(coefficients)
    return least_ones(sizes, min(sizes)) if len(sizes) > 0 else []


def is_among(firsts, number):
    """Whether the number is one of the HEAPS with these least ones, by as many remainders."""
    # Without coefficients there is nothing to divide by, and 0 is the only one.
    if firsts == []:
        return number == 0
    first = firsts[number % len(firsts)]
    return first is not None and number >= first


def is_heap(coefficients, number):
    """Whether the number is one of the HEAPS."""
    return is_among(firsts_of(coefficients), number)


def gaps(coefficients):
    """The ascending list of all gaps."""
    firsts = firsts_of(coefficients)
    # A class without a least one holds no multiple of the step, so it holds no gap.
    return sorted([number for remainder, first in enumerate(firsts) if first is not None
                   for number in range(remainder, first, len(firsts))])


def how_many_gaps(coefficients):
    """How many gaps there are."""
    return len(gaps(coefficients))


def greatest_gap(coefficients):
    """The greatest gap; None if there is none."""
    return max(gaps(coefficients), default=None)


def least_in_class(coefficients, place, number):
    """The least one of the HEAPS in the class of the number by this place; None if there is none."""
    check_counter(coefficients, place)
    sizes = sizes_of(coefficients)
    return least_ones(sizes, sizes[place])[number % sizes[place]]


def is_halved(coefficients):
    """Whether of any two multiples of the step that make up the greatest gap just one comes."""
    last = greatest_gap(coefficients)
    if last is None:
        return True
    firsts = firsts_of(coefficients)
    # Of a number below 0 and its mate above the greatest gap just the mate comes.
    return all([is_among(firsts, number) != is_among(firsts, last - number)
                for number in range(0, last + 1, step(coefficients))])


def counts_of_first(sizes, firsts, number):
    """COUNTS of a number that is among firsts, as a list."""
    counts = [0] * len(sizes)
    rest = number
    while rest > 0:
        # A way down that leaves the HEAPS would never come to 0.
        place = [is_among(firsts, rest - size) for size in sizes].index(True)
        counts[place] += 1
        rest -= sizes[place]
    return counts


def heap_counts(coefficients, number):
    """COUNTS of the number; None if there are none."""
    if not is_heap(coefficients, number):
        return None
    if len(coefficients) == 0:
        return ()
    sizes = sizes_of(coefficients)
    firsts = least_ones(sizes, sizes[0])
    first = firsts[number % sizes[0]]
    counts = counts_of_first(sizes, firsts, first)
    counts[0] += (number - first) // sizes[0]
    return tuple(counts)


def is_heap_counts(coefficients, number, thing):
    """Whether thing is COUNTS of the number."""
    if not is_numbers(thing) or len(thing) != len(coefficients):
        return False
    return all([count >= 0 for count in thing]) and sum_of(sizes_of(coefficients), thing) == number


def fewest_to(sizes, most):
    """For each number from 0 to most: what its COUNTS add up to at the least; None if it has none."""
    fewest = [0] + [None] * most
    for number in range(1, most + 1):
        behind = [fewest[number - size] for size in sizes if size <= number]
        told = [many for many in behind if many is not None]
        if told != []:
            fewest[number] = 1 + min(told)
    return fewest


def fewest_counts(coefficients, number):
    """What the COUNTS of the number add up to at the least; None if it has none."""
    if not is_heap(coefficients, number):
        return None
    sizes = sizes_of(coefficients)
    great = max(sizes, default=1)
    # Of as many smaller ones as the greatest value says, some add up to a multiple of it, which it
    # makes itself by no more. So from its square on it is taken at least once.
    spared = max(0, number // great - great + 1)
    rest = number - spared * great
    return spared + fewest_to(sizes, rest)[rest]


def needless(coefficients):
    """The set of the places each of which can be left out while the HEAPS stay the same."""
    return tuple([place for place, one in enumerate(coefficients) if is_heap(without(coefficients, place), abs(one))])


def bare_coefficients(coefficients):
    """The ascending tuple of as few numbers above 0 as can be that have the same HEAPS."""
    bare = []
    for size in sorted(sizes_of(coefficients)):
        if not is_heap(bare, size):
            bare.append(size)
    return tuple(bare)


def same_heaps(one, other):
    """Whether both have the same HEAPS."""
    return bare_coefficients(one) == bare_coefficients(other)
