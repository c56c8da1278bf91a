"""Two places of nested loops, and whether they touch one cell: point [9]."""

from quickexact.sums import counters_for, how_many_counters, is_counters, is_let, is_sum, sum_of, sums
from quickexact.things import are_unlike, is_name, is_number, is_numbers, is_pair

MOST_LOOPS = 3


def is_loop(thing):
    """Whether thing is a pair of a NAME and a bound from 1."""
    return is_pair(thing) and is_name(thing[0]) and is_number(thing[1]) and thing[1] >= 1


def is_loops(thing):
    """Whether thing is LOOPS."""
    if not isinstance(thing, tuple) or len(thing) > MOST_LOOPS:
        return False
    if not all([is_loop(loop) for loop in thing]):
        return False
    return are_unlike([name for name, _ in thing])


def is_place(loops, thing):
    """Whether thing is a PLACE of the loops."""
    if not is_pair(thing) or not is_numbers(thing[0]):
        return False
    return len(thing[0]) == len(loops) and is_number(thing[1])


def bounds_of(loops):
    """The bounds of the loops, in their order."""
    return tuple([bound for _, bound in loops])


def is_round(loops, thing):
    """Whether thing is a ROUND of the loops."""
    return is_counters(bounds_of(loops), thing)


def rounds_of(loops):
    """The ascending list of all ROUNDS."""
    rounds = [()]
    for bound in bounds_of(loops):
        rounds = [counters + (counter,) for counters in rounds for counter in range(bound + 1)]
    return rounds


def how_many_rounds(loops):
    """How many ROUNDS there are."""
    many = 1
    for bound in bounds_of(loops):
        many *= bound + 1
    return many


def cell_at(place, counters):
    """The cell of the place in this ROUND."""
    return sum_of(place[0], counters) + place[1]


def both_numbers(one, other):
    """The numbers of one, then those of other with the other sign, zeros too."""
    return tuple(one[0]) + tuple([-number for number in other[0]])


def without_zeros(numbers, bounds):
    """Coefficients and their bounds: the numbers that are not 0, and the bounds of their loops."""
    kept = [(number, bound) for number, bound in zip(numbers, bounds) if number != 0]
    return tuple([number for number, _ in kept]), tuple([bound for _, bound in kept])


def equation_of(loops, one, other):
    """The triple (coefficients, bounds, number) that tells where both PLACES are the same cell."""
    coefficients, bounds = without_zeros(both_numbers(one, other), bounds_of(loops) * 2)
    return coefficients, bounds, other[1] - one[1]


def may_touch(loops, one, other):
    """Whether the test lets the number of the equation."""
    coefficients, bounds, number = equation_of(loops, one, other)
    return is_let(coefficients, bounds, number)


def is_two_rounds(loops, thing):
    """Whether thing is a pair of two ROUNDS."""
    return is_pair(thing) and is_round(loops, thing[0]) and is_round(loops, thing[1])


def is_touching(loops, one, other, thing):
    """Whether thing is a pair of two ROUNDS, of one and of other, in which both are the same cell."""
    return is_two_rounds(loops, thing) and cell_at(one, thing[0]) == cell_at(other, thing[1])


def touch(loops, one, other):
    """Whether both PLACES touch."""
    coefficients, bounds, number = equation_of(loops, one, other)
    return is_sum(coefficients, bounds, number)


def with_zeros(numbers, counters):
    """The counters of the numbers that are not 0, and 0 as the counter of each other one."""
    filled = []
    taken = 0
    for number in numbers:
        if number == 0:
            filled.append(0)
        else:
            filled.append(counters[taken])
            taken += 1
    return tuple(filled)


def touching(loops, one, other):
    """A pair of ROUNDS as is_touching tells it; None if there is none."""
    coefficients, bounds, number = equation_of(loops, one, other)
    found = counters_for(coefficients, bounds, number)
    if found is None:
        return None
    filled = with_zeros(both_numbers(one, other), found)
    return filled[:len(loops)], filled[len(loops):]


def how_many_touchings(loops, one, other):
    """How many pairs of ROUNDS there are in which both PLACES are the same cell."""
    coefficients, bounds, number = equation_of(loops, one, other)
    many = how_many_counters(coefficients, bounds, number)
    # A loop with the number 0 is in no equation: each of its rounds does.
    for own, bound in zip(both_numbers(one, other), bounds_of(loops) * 2):
        if own == 0:
            many *= bound + 1
    return many


def cells_of(loops, place):
    """The ascending list of the cells of the place in all ROUNDS."""
    coefficients, bounds = without_zeros(place[0], bounds_of(loops))
    return [total + place[1] for total in sums(coefficients, bounds)]


def touches_itself(loops, place):
    """Whether the place is the same cell in two unlike ROUNDS."""
    return len(cells_of(loops, place)) < how_many_rounds(loops)
