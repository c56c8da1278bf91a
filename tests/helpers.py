"""What several tests share: plain walks over all COUNTERS, cases, and rows of examples."""

import importlib
import itertools
import math
import random
import time

FILES = ("errors", "sums", "exact", "heaps", "holes", "unknown")


def everything():
    """All names of the files that have landed, with which the examples are read."""
    names = {}
    for name in FILES:
        module = importlib.import_module("quickexact." + name)
        for word, value in vars(module).items():
            if not word.startswith("_"):
                names[word] = value
    return names


def outcome(asked, names):
    """What the row tells, written as the document writes it."""
    try:
        # The text of a value parts True from 1, and a list from a tuple.
        return repr(eval(asked, dict(names)))
    except Exception as error:
        values = ", ".join(f"{word}={value!r}" for word, value in vars(error).items())
        return f"raises {error.__class__.__name__}({values})"


def walk(coefficients, bounds):
    """A dict of all sums, each with the list of its COUNTERS, by walking over all of them."""
    found = {}
    for counters in itertools.product(*[range(bound + 1) for bound in bounds]):
        total = 0
        for one, counter in zip(coefficients, counters):
            total += one * counter
        found.setdefault(total, []).append(counters)
    return found


def walked_holes(coefficients, bounds):
    """The holes as the document tells them, by a walk."""
    found = walk(coefficients, bounds)
    common = math.gcd(*coefficients)
    between = range(min(found), max(found) + 1, common if common else 1)
    return [number for number in between if number not in found]


def walked_sums(coefficients, bounds):
    """All sums, as a set, by adding up one counter after the other."""
    found = {0}
    for one, bound in zip(coefficients, bounds):
        found = {total + one * counter for total in found for counter in range(bound + 1)}
    return found


def walked_heaps(coefficients, most):
    """For each number from 0 to most whether it is one of the HEAPS, by adding up, number by number."""
    sizes = sorted({abs(one) for one in coefficients})
    found = [True] + [False] * most
    for number in range(1, most + 1):
        for size in sizes:
            if size <= number and found[number - size]:
                found[number] = True
                break
    return found


def all_gaps_to(coefficients):
    """A number above which there is no gap: two numbers without a common divisor leave none from their product on."""
    return max([abs(one) for one in coefficients], default=1) ** 2


def walked_gaps(coefficients):
    """The gaps as the document tells them, by adding up."""
    found = walked_heaps(coefficients, all_gaps_to(coefficients))
    common = math.gcd(*coefficients)
    return [number for number, is_heap in enumerate(found) if not is_heap and common and number % common == 0]


def walked_parting(coefficients, bounds):
    """The holes that part, as the document tells them."""
    found = walked_sums(coefficients, bounds)
    least, greatest = min(found), max(found)
    common = math.gcd(*coefficients)
    heaps = walked_heaps(coefficients, greatest - least)
    return [number for number in range(least, greatest + 1, max(1, common))
            if number not in found and heaps[number - least] and heaps[greatest - number]]


def quickly(test, function, *told):
    """What the function tells, which must not take more than a few seconds of work."""
    begin = time.process_time()
    answer = function(*told)
    test.assertLess(time.process_time() - begin, 4, (function.__name__, told))
    return answer


def sizes_to(most):
    """The numbers from -most to most, but 0."""
    return [number for number in range(-most, most + 1) if number != 0]


def cases_of(many, most, bound):
    """All COEFFICIENTS of so many numbers to most, with all BOUNDS to bound."""
    for coefficients in itertools.product(sizes_to(most), repeat=many):
        for bounds in itertools.product(range(1, bound + 1), repeat=many):
            yield coefficients, bounds


def drawn_cases(many_cases, many, most, bound, seed):
    """Cases from a told seed: the same ones in each run."""
    source = random.Random(seed)
    for _ in range(many_cases):
        coefficients = tuple(source.choice(sizes_to(most)) for _ in range(many))
        yield coefficients, tuple(source.randint(1, bound) for _ in range(many))


def small_cases():
    """Many small COEFFICIENTS and BOUNDS, () ahead of all."""
    yield (), ()
    yield from cases_of(1, 7, 4)
    yield from cases_of(2, 6, 3)
    yield from drawn_cases(500, 3, 8, 4, 3)
    yield from drawn_cases(300, 4, 9, 3, 4)
    yield from drawn_cases(100, 5, 9, 2, 5)
    yield from drawn_cases(60, 6, 12, 2, 6)
    # Common divisors above 1 are rare among drawn numbers.
    for factor in (2, 3, 10):
        for coefficients, bounds in drawn_cases(60, 3, 6, 4, factor):
            yield tuple(factor * one for one in coefficients), bounds


def odd_things():
    """Values of all kinds that a thing may be, none of them a tuple of numbers from 0 on."""
    from quickexact.errors import NoCounter, Unfit

    nested = (1,)
    for _ in range(11):
        nested = (nested,)
    lists = [1]
    for _ in range(11):
        lists = [lists]
    return [
        None, True, False, 0, 1, -1, 10 ** 41, "", "1", "12", "(1,)", [], [1], [1, 1], [[1]], [None],
        (None,), (True,), (False,), (True, True), (1, True), (False, 1), (True, 1, 1), ("1",), ("",), ("a", "b"),
        (1, "1"), (1, None), ([1],), ([1], [1]), ((1,),), ((1, 1),), ((1,), (1,)), (1, (1,)), (1, [1]), (1, ()),
        ((),), ([],), (nested,), nested, lists, (lists, lists), Unfit(), NoCounter(1), (NoCounter(1),),
        (Unfit(), Unfit()),
    ]
