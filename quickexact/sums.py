"""Sums of counters within bounds, and the quick test of them: point [4]."""

from math import gcd

from quickexact.things import is_numbers

MOST_COEFFICIENTS = 6


def is_coefficients(thing):
    """Whether thing is COEFFICIENTS: at most 6 numbers, none of them 0."""
    return is_numbers(thing) and len(thing) <= MOST_COEFFICIENTS and 0 not in thing


def is_bounds(coefficients, thing):
    """Whether thing is BOUNDS of the coefficients."""
    if not is_numbers(thing) or len(thing) != len(coefficients):
        return False
    return all([bound >= 1 for bound in thing])


def is_counters(bounds, thing):
    """Whether thing is COUNTERS within these bounds."""
    if not is_numbers(thing) or len(thing) != len(bounds):
        return False
    return all([0 <= counter <= bound for counter, bound in zip(thing, bounds)])


def sum_of(coefficients, counters):
    """The sum of the products of each coefficient with its counter."""
    return sum([one * counter for one, counter in zip(coefficients, counters)])


def least_sum(coefficients, bounds):
    """The least sum of all COUNTERS."""
    return sum([one * bound for one, bound in zip(coefficients, bounds) if one < 0])


def greatest_sum(coefficients, bounds):
    """The greatest sum of all COUNTERS."""
    return sum([one * bound for one, bound in zip(coefficients, bounds) if one > 0])


def width_of(coefficients, bounds):
    """The greatest sum less the least one."""
    return greatest_sum(coefficients, bounds) - least_sum(coefficients, bounds)


def step(coefficients):
    """The greatest common divisor of the coefficients, 0 for ()."""
    common = 0
    for one in coefficients:
        common = gcd(common, one)
    return common


def divides(divisor, number):
    """Whether number is a multiple of the divisor."""
    # 0 divides 0 alone, but Python does not divide by it.
    if divisor == 0:
        return number == 0
    return number % divisor == 0


def is_let(coefficients, bounds, number):
    """Whether the test lets the number."""
    if number < least_sum(coefficients, bounds) or number > greatest_sum(coefficients, bounds):
        return False
    return divides(step(coefficients), number)


def is_counters_for(coefficients, bounds, number, thing):
    """Whether thing is COUNTERS whose sum is the number."""
    return is_counters(bounds, thing) and sum_of(coefficients, thing) == number


def mirrored(coefficients, bounds, number):
    """The number that is as far from the other end of the sums."""
    return least_sum(coefficients, bounds) + greatest_sum(coefficients, bounds) - number


def made_plain(coefficients, bounds, number):
    """The same question with coefficients above 0 and the step 1; None if the step parts it."""
    common = step(coefficients)
    if not divides(common, number):
        return None
    if common == 0:
        return (), (), 0
    others = tuple([abs(one) // common for one in coefficients])
    rest = (number - least_sum(coefficients, bounds)) // common
    return others, tuple(bounds), rest


def many_at(ways, number):
    """What ways tells of the number: 0 for those beneath and behind it."""
    return ways[number] if 0 <= number < len(ways) else 0


def ways_with(ways, size, bound):
    """The ways to each number from 0 on, when a counter joins those that ways tells of."""
    joined = ways + [0] * (size * bound)
    end = len(joined)
    for number in range(size, end):
        joined[number] += joined[number - size]
    # So far the new counter went on for ever: off with those beyond its bound.
    beyond = size * (bound + 1)
    for number in reversed(range(beyond, end)):
        joined[number] -= joined[number - beyond]
    return joined


def layers_of(coefficients, bounds):
    """For no counter, the first one, the first two, and so on: the ways to each number.

    Numbers are counted from the least sum, by the absolute values.
    """
    layers = [[1]]
    for one, bound in zip(coefficients, bounds):
        layers.append(ways_with(layers[-1], abs(one), bound))
    return layers


def how_many_counters(coefficients, bounds, number):
    """How many COUNTERS have the number as their sum."""
    rest = number - least_sum(coefficients, bounds)
    return many_at(layers_of(coefficients, bounds)[-1], rest)


def is_sum(coefficients, bounds, number):
    """Whether the number is the sum of some COUNTERS."""
    return how_many_counters(coefficients, bounds, number) > 0


def sums(coefficients, bounds):
    """The ascending list of the sums of all COUNTERS."""
    least = least_sum(coefficients, bounds)
    ways = layers_of(coefficients, bounds)[-1]
    return [least + rest for rest, many in enumerate(ways) if many > 0]


def sums_between(coefficients, bounds, low, high):
    """The ascending list of the sums from low to high."""
    return [number for number in sums(coefficients, bounds) if low <= number <= high]


def counters_for(coefficients, bounds, number):
    """COUNTERS whose sum is the number; None if there are none."""
    layers = layers_of(coefficients, bounds)
    rest = number - least_sum(coefficients, bounds)
    if many_at(layers[-1], rest) == 0:
        return None
    found = []
    for place in reversed(range(len(bounds))):
        taken = 0
        while many_at(layers[place], rest) == 0:
            taken += 1
            rest -= abs(coefficients[place])
        # At the least sum a counter with a coefficient below 0 stands at its bound.
        found.append(taken if coefficients[place] > 0 else bounds[place] - taken)
    return tuple(reversed(found))
