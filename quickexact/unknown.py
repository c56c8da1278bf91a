"""What comes with bounds that nobody knows: point [8]."""

from quickexact.exact import check_counter, without
from quickexact.heaps import firsts_of, is_among
from quickexact.holes import holes
from quickexact.sums import divides, is_counters_for, step, sum_of, sums
from quickexact.things import moved


def has_both_signs(coefficients):
    """Whether there are coefficients above 0 and below 0."""
    return any([one > 0 for one in coefficients]) and any([one < 0 for one in coefficients])


def comes_by(coefficients, firsts, number):
    """Whether the number comes at all, told by the least ones of the HEAPS."""
    if has_both_signs(coefficients):
        return divides(step(coefficients), number)
    if any([one < 0 for one in coefficients]):
        return is_among(firsts, -number)
    return is_among(firsts, number)


def comes_at_all(coefficients, number):
    """Whether there are BOUNDS with which the number comes."""
    return comes_by(coefficients, firsts_of(coefficients), number)


def why_never(coefficients, number):
    """Why the number never comes: "step", "sign" or "gap"; None if it comes at all."""
    if not divides(step(coefficients), number):
        return "step"
    if comes_at_all(coefficients, number):
        return None
    return "sign" if all([one * number < 0 for one in coefficients]) else "gap"


def parts_of(coefficients):
    """The sums of COUNTERS with all bounds 1, each with COUNTERS for it, as a dict."""
    found = {0: ()}
    for one in coefficients:
        joined = {total: counters + (0,) for total, counters in found.items()}
        for start in found:
            joined.setdefault(start + one, found[start] + (1,))
        found = joined
    return found


def last_parts(parts, number):
    """For each total that is come to by as few parts as can be: the last part; as far as to the number."""
    # The parts of a sum can be put in an order that goes up while it is below the number, and down
    # while it is above: such an order never leaves this range.
    low = min(0, number) + min(parts)
    high = max(0, number) + max(parts)
    last = {0: 0}
    edge = [0]
    while len(edge) > 0 and number not in last:
        further = []
        for start in edge:
            for part in parts:
                total = start + part
                if low <= total <= high and total not in last:
                    last[total] = part
                    further.append(total)
        edge = further
    return last


def shown_by(coefficients, number):
    """Counters from 0 to comes_from whose sum is the number; None if it does not come at all."""
    # With all bounds n come just the numbers that are made of n parts, each a sum with all bounds 1.
    parts = parts_of(coefficients)
    last = last_parts(parts, number)
    if number not in last:
        return None
    counters = [0] * len(coefficients)
    rest = number
    while rest != 0:
        part = last[rest]
        counters = [counter + more for counter, more in zip(counters, parts[part])]
        rest -= part
    return tuple(counters)


def comes_from(coefficients, number):
    """The least number from 1 such that the number comes with all BOUNDS from it on; None if it never comes."""
    counters = shown_by(coefficients, number)
    # They are made of as few parts as can be: no others have a less greatest one.
    return None if counters is None else max((1,) + counters)


def is_shown_by(coefficients, number, thing):
    """Whether thing is counters as shown_by tells them."""
    most = comes_from(coefficients, number)
    if most is None:
        return False
    return is_counters_for(coefficients, (most,) * len(coefficients), number, thing)


def comes_with(coefficients, bounds, place, number):
    """The least bound of this counter with which the number comes, the others staying; None if there is none."""
    check_counter(coefficients, place)
    one = coefficients[place]
    rests = [number - total for total in sums(without(coefficients, place), without(bounds, place))]
    counts = [rest // one for rest in rests if rest % one == 0 and rest // one >= 0]
    return max(1, min(counts)) if counts != [] else None


def missed_for_ever(coefficients, low, high):
    """The ascending list of the numbers from low to high that the step divides and that never come."""
    common = step(coefficients)
    firsts = firsts_of(coefficients)
    return [number for number in range(low, high + 1)
            if divides(common, number) and not comes_by(coefficients, firsts, number)]


def lasting_holes(coefficients, bounds):
    """The ascending list of the holes that do not come at all."""
    firsts = firsts_of(coefficients)
    return [hole for hole in holes(coefficients, bounds) if not comes_by(coefficients, firsts, hole)]


def passing_holes(coefficients, bounds):
    """The ascending list of the holes that come at all."""
    firsts = firsts_of(coefficients)
    return [hole for hole in holes(coefficients, bounds) if comes_by(coefficients, firsts, hole)]


def rows_between(many, low, high):
    """The ascending list of all tuples of so many numbers from low to high."""
    rows = [()]
    for _ in range(many):
        rows = [row + (number,) for row in rows for number in range(low, high + 1)]
    return rows


def shown_bounds(coefficients, number, most):
    """The BOUNDS that some counters to most with this sum need, as the keys of a dict."""
    found = {}
    for counters in rows_between(len(coefficients), 0, most):
        if sum_of(coefficients, counters) == number:
            found[tuple([max(1, counter) for counter in counters])] = True
    return found


def least_bounds_for(coefficients, number, most):
    """The ascending list of the BOUNDS to most with which the number comes, but with no less ones."""
    shown = shown_bounds(coefficients, number, most)
    coming = {}
    found = []
    for bounds in rows_between(len(coefficients), 1, most):
        # The rows ascend: those with one bound less by 1 are told already.
        if any([moved(bounds, place, -1) in coming for place in range(len(bounds))]):
            coming[bounds] = True
        elif bounds in shown:
            coming[bounds] = True
            found.append(bounds)
    return found
