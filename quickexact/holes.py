"""The mistakes of the quick test, and bounds from which on they stay: point [7]."""

from quickexact.heaps import firsts_of, greatest_gap, how_many_gaps, is_among, sizes_of
from quickexact.sums import greatest_sum, is_bounds, is_let, is_sum, layers_of, least_sum, step, width_of
from quickexact.things import moved

MOST_WIDTH = 4000


def holes(coefficients, bounds):
    """The ascending list of all holes."""
    least = least_sum(coefficients, bounds)
    ways = layers_of(coefficients, bounds)[-1]
    # Without coefficients the step is 0, but 0 is the only number there.
    steps = range(0, len(ways), max(1, step(coefficients)))
    return [least + rest for rest in steps if ways[rest] == 0]


def how_many_holes(coefficients, bounds):
    """How many holes there are."""
    return len(holes(coefficients, bounds))


def is_hole(coefficients, bounds, number):
    """Whether the number is a hole."""
    return is_let(coefficients, bounds, number) and not is_sum(coefficients, bounds, number)


def parting_holes(coefficients, bounds):
    """The ascending list of the holes that are one of the HEAPS away from either end."""
    firsts = firsts_of(coefficients)
    least = least_sum(coefficients, bounds)
    greatest = greatest_sum(coefficients, bounds)
    return [hole for hole in holes(coefficients, bounds)
            if is_among(firsts, hole - least) and is_among(firsts, greatest - hole)]


def is_settled(coefficients, bounds):
    """Whether the BOUNDS are settled."""
    # A sum is always one of the HEAPS away from either end: just holes can be in the way.
    return parting_holes(coefficients, bounds) == []


def holes_from_ends(coefficients, bounds):
    """The pair of the set of holes a gap above the least sum and of those a gap below the greatest one."""
    firsts = firsts_of(coefficients)
    least = least_sum(coefficients, bounds)
    greatest = greatest_sum(coefficients, bounds)
    own = holes(coefficients, bounds)
    # The step divides the way from a hole to either end: if it is none of the HEAPS, it is a gap.
    above_least = tuple([hole for hole in own if not is_among(firsts, hole - least)])
    below_greatest = tuple([hole for hole in own if not is_among(firsts, greatest - hole)])
    return above_least, below_greatest


def last_gap(coefficients):
    """The greatest gap, or the number that is below 0 by the step if there is no gap."""
    gap = greatest_gap(coefficients)
    return -step(coefficients) if gap is None else gap


def sure_width(coefficients):
    """The width above which settled BOUNDS stay settled."""
    return 2 * last_gap(coefficients) + max(sizes_of(coefficients), default=0)


def holes_at_last(coefficients):
    """How many holes there are with all BOUNDS from some number on."""
    return 2 * how_many_gaps(coefficients)


def stays_settled(coefficients, bounds):
    """Whether the BOUNDS, and all of which none is less, are settled."""
    return unsettled_above(coefficients, bounds) is None


def unsettled_above(coefficients, bounds):
    """BOUNDS none of which is less than in bounds and that are not settled; None if there are none."""
    sure = sure_width(coefficients)
    edge = [tuple(bounds)]
    while len(edge) > 0:
        greater = {}
        for own in edge:
            if not is_settled(coefficients, own):
                return own
            # Settled ones of a greater width stay settled: there is nothing to find above them.
            if width_of(coefficients, own) <= sure:
                for place in range(len(own)):
                    greater[moved(own, place, 1)] = True
        edge = list(greater)
    return None


def is_unsettled_above(coefficients, bounds, thing):
    """Whether thing is BOUNDS as unsettled_above tells them."""
    if not is_bounds(coefficients, thing) or width_of(coefficients, thing) > MOST_WIDTH:
        return False
    if any([bound < least for bound, least in zip(thing, bounds)]):
        return False
    return not is_settled(coefficients, thing)


def settled_from(coefficients):
    """The least number from 1 such that all BOUNDS in which none is below it are settled."""
    least = 1
    while not stays_settled(coefficients, (least,) * len(coefficients)):
        least += 1
    return least
