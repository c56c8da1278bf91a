"""Places with several coordinates: point [11]."""

from quickexact.errors import Unfit
from quickexact.nests import both_numbers, bounds_of, cell_at, is_place, is_two_rounds, may_touch, rounds_of
from quickexact.sums import greatest_sum, least_sum
from quickexact.things import is_pair, subsets_of


def check_coordinates(one, other):
    """Raise Unfit if both do not have as many coordinates."""
    if len(one) != len(other):
        raise Unfit()


def is_spot(loops, thing):
    """Whether thing is a SPOT of the loops, of however many coordinates."""
    return isinstance(thing, tuple) and all([is_place(loops, place) for place in thing])


def cells_at(spot, counters):
    """The cells of the spot in this ROUND."""
    return tuple([cell_at(place, counters) for place in spot])


def tests_each(loops, one, other):
    """The tuple that tells for each coordinate whether the test lets its equation."""
    check_coordinates(one, other)
    return tuple([may_touch(loops, own, mate) for own, mate in zip(one, other)])


def rounds_by_cells(loops, spot):
    """For each cells of the spot the list of its ROUNDS, as a dict."""
    found = {}
    for counters in rounds_of(loops):
        found.setdefault(cells_at(spot, counters), []).append(counters)
    return found


def touching_all(loops, one, other):
    """A pair of ROUNDS in which the cells of both are the same; None if there is none."""
    check_coordinates(one, other)
    mates = rounds_by_cells(loops, other)
    for counters in rounds_of(loops):
        cells = cells_at(one, counters)
        if cells in mates:
            return counters, mates[cells][0]
    return None


def touch_all(loops, one, other):
    """Whether both SPOTS touch."""
    return touching_all(loops, one, other) is not None


def is_touching_all(loops, one, other, thing):
    """Whether thing is a pair of two ROUNDS in which the cells of both are the same."""
    check_coordinates(one, other)
    return is_two_rounds(loops, thing) and cells_at(one, thing[0]) == cells_at(other, thing[1])


def how_many_together(loops, one, other):
    """How many pairs of ROUNDS there are in which the cells of both are the same."""
    check_coordinates(one, other)
    mates = rounds_by_cells(loops, other)
    return sum([len(mates.get(cells_at(one, counters), [])) for counters in rounds_of(loops)])


def shared_cells(loops, one, other):
    """The ascending list of the cells that both have, each in some ROUND."""
    check_coordinates(one, other)
    mates = rounds_by_cells(loops, other)
    return sorted([cells for cells in rounds_by_cells(loops, one) if cells in mates])


def with_coordinates(spot, numbers):
    """The spot with the coordinates of these numbers alone."""
    return tuple([spot[number] for number in numbers])


def is_parting(loops, one, other, numbers):
    """Whether both do not touch by the coordinates of these numbers alone."""
    return not touch_all(loops, with_coordinates(one, numbers), with_coordinates(other, numbers))


def parted_by(loops, one, other):
    """The set of the numbers of the coordinates whose PLACES, by themselves, do not touch."""
    check_coordinates(one, other)
    return tuple([number for number in range(len(one)) if is_parting(loops, one, other, (number,))])


def least_parting(loops, one, other):
    """The least of the smallest sets of coordinates by which alone they do not touch; None if they touch."""
    check_coordinates(one, other)
    for numbers in subsets_of(list(range(len(one)))):
        if is_parting(loops, one, other, numbers):
            return numbers
    return None


def farthest(loops, one, other):
    """How far apart, at the most, the cells of both PLACES are, in whatever ROUNDS."""
    numbers = both_numbers(one, other)
    bounds = bounds_of(loops) * 2
    more = one[1] - other[1]
    return max(greatest_sum(numbers, bounds) + more, -least_sum(numbers, bounds) - more)


def weights_of(loops, one, other):
    """For each coordinate a number greater than all that those ahead of it can make up."""
    weights = []
    beneath = 0
    for own, mate in zip(one, other):
        weights.append(beneath + 1)
        beneath += (beneath + 1) * farthest(loops, own, mate)
    return weights


def pressed(loops, spot, weights):
    """The PLACE whose cell is the sum of the cells of the spot, each as often as its weight says."""
    numbers = [0] * len(loops)
    number = 0
    for place, weight in zip(spot, weights):
        numbers = [total + weight * own for total, own in zip(numbers, place[0])]
        number += weight * place[1]
    return tuple(numbers), number


def flattened(loops, one, other):
    """A pair of PLACES that are the same cell just where the cells of both SPOTS are the same."""
    check_coordinates(one, other)
    weights = weights_of(loops, one, other)
    return pressed(loops, one, weights), pressed(loops, other, weights)


def is_flattened(loops, one, other, thing):
    """Whether thing is a pair of PLACES as flattened tells it."""
    check_coordinates(one, other)
    if not is_pair(thing) or not is_place(loops, thing[0]) or not is_place(loops, thing[1]):
        return False
    first, second = (thing[0],), (thing[1],)
    together = how_many_together(loops, one, other)
    # There are as many pairs by the cells, by the flat ones, and by both: so they are the same pairs.
    if how_many_together(loops, first, second) != together:
        return False
    return how_many_together(loops, tuple(one) + first, tuple(other) + second) == together
