"""Where the quick test is exact: point [5]."""

from quickexact.errors import NoCounter
from quickexact.sums import greatest_sum, least_sum, mirrored, step, width_of
from quickexact.things import is_numbers


def check_counter(coefficients, place):
    """Raise NoCounter if no counter has this number."""
    if not 0 <= place < len(coefficients):
        raise NoCounter(place)


def least_order(coefficients):
    """The least order of the coefficients, as a list."""
    # sorted leaves places with the same absolute value ascending.
    return sorted(range(len(coefficients)), key=lambda place: abs(coefficients[place]))


def is_order(coefficients, thing):
    """Whether thing is an order of the coefficients."""
    if not is_numbers(thing) or sorted(thing) != list(range(len(coefficients))):
        return False
    sizes = [abs(coefficients[place]) for place in thing]
    return sizes == sorted(sizes)


def linked_reach(coefficients, bounds, order):
    """The reach beneath the first place of the order that breaks the chain, or that of all."""
    common = step(coefficients)
    reach = 0
    for place in order:
        size = abs(coefficients[place])
        if size > reach + common:
            return reach
        reach += size * bounds[place]
    return reach


def is_linked(coefficients, bounds, order):
    """Whether the order is a chain."""
    return linked_reach(coefficients, bounds, order) == width_of(coefficients, bounds)


def is_exact(coefficients, bounds):
    """Whether there is no hole."""
    return is_linked(coefficients, bounds, least_order(coefficients))


def chain(coefficients, bounds):
    """The least order that is a chain; None if there is none."""
    order = tuple(least_order(coefficients))
    return order if is_linked(coefficients, bounds, order) else None


def is_chain(coefficients, bounds, thing):
    """Whether thing is a chain."""
    return is_order(coefficients, thing) and is_linked(coefficients, bounds, thing)


def whole_to(coefficients, bounds):
    """The greatest sum up to which there is no hole."""
    reach = linked_reach(coefficients, bounds, least_order(coefficients))
    return least_sum(coefficients, bounds) + reach


def first_hole(coefficients, bounds):
    """The least hole; None if there is none."""
    # All that lies behind the break of a chain is too great for the next step.
    whole = whole_to(coefficients, bounds)
    if whole == greatest_sum(coefficients, bounds):
        return None
    return whole + step(coefficients)


def last_hole(coefficients, bounds):
    """The greatest hole; None if there is none."""
    hole = first_hole(coefficients, bounds)
    return None if hole is None else mirrored(coefficients, bounds, hole)


def parts_needed(number, size):
    """How many times size must be taken to come to the number, at the least."""
    return -(-number // size)


def exact_from(coefficients):
    """The least number from 1 such that all BOUNDS from it on are exact; None if there is none."""
    if len(coefficients) == 0:
        return 1
    common = step(coefficients)
    sizes = sorted([abs(one) for one in coefficients])
    # Nothing lies beneath the first one: bounds do not help it.
    if sizes[0] > common:
        return None
    needed = 1
    beneath = sizes[0]
    for size in sizes[1:]:
        needed = max(needed, parts_needed(size - common, beneath))
        beneath += size
    return needed


def bound_needed(coefficients, bounds, place):
    """The least bound of this counter with which there is no hole; None if there is none."""
    check_counter(coefficients, place)
    common = step(coefficients)
    needed = 1
    reach = 0
    is_beneath = False
    for other in least_order(coefficients):
        lack = abs(coefficients[other]) - common - reach
        # Only what stands behind the place in the order is helped by its bound.
        if lack > 0 and not is_beneath:
            return None
        needed = max(needed, parts_needed(lack, abs(coefficients[place])))
        if other == place:
            is_beneath = True
        else:
            reach += abs(coefficients[other]) * bounds[other]
    return needed


def without(values, place):
    """The values but the one at this place."""
    return values[:place] + values[place + 1:]


def is_idle(coefficients, bounds, place):
    """Whether what is left without this counter is exact."""
    return is_exact(without(coefficients, place), without(bounds, place))


def idle_counters(coefficients, bounds):
    """The set of the counters without each of which what is left is exact."""
    return tuple([place for place in range(len(coefficients)) if is_idle(coefficients, bounds, place)])
