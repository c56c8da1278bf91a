"""What several tests share: plain walks over all COUNTERS, cases, and rows of examples."""

import importlib
import itertools
import math
import random
import re
import time

FILES = ("errors", "sums", "exact", "heaps", "holes", "unknown", "nests", "signs", "several", "order",
         "loopbook", "texts", "desk")


def everything():
    """All names of the files that have landed, with which the examples are read."""
    names = {}
    for name in FILES:
        module = importlib.import_module("quickexact." + name)
        for word, value in vars(module).items():
            if not word.startswith("_"):
                names[word] = value
    return names


def outcome(asked, names):
    """What the row tells, written as the document writes it."""
    try:
        # The text of a value parts True from 1, and a list from a tuple.
        return repr(eval(asked, dict(names)))
    except Exception as error:
        values = ", ".join(f"{word}={value!r}" for word, value in vars(error).items())
        return f"raises {error.__class__.__name__}({values})"


def walk(coefficients, bounds):
    """A dict of all sums, each with the list of its COUNTERS, by walking over all of them."""
    found = {}
    for counters in itertools.product(*[range(bound + 1) for bound in bounds]):
        total = 0
        for one, counter in zip(coefficients, counters):
            total += one * counter
        found.setdefault(total, []).append(counters)
    return found


def walked_holes(coefficients, bounds):
    """The holes as the document tells them, by a walk."""
    found = walk(coefficients, bounds)
    common = math.gcd(*coefficients)
    between = range(min(found), max(found) + 1, common if common else 1)
    return [number for number in between if number not in found]


def walked_sums(coefficients, bounds):
    """All sums, as a set, by adding up one counter after the other."""
    found = {0}
    for one, bound in zip(coefficients, bounds):
        found = {total + one * counter for total in found for counter in range(bound + 1)}
    return found


def walked_counts(coefficients, bounds):
    """For each sum how many COUNTERS it has, as a dict, by adding up one counter after the other."""
    found = {0: 1}
    for one, bound in zip(coefficients, bounds):
        joined = {}
        for total, many in found.items():
            for counter in range(bound + 1):
                joined[total + one * counter] = joined.get(total + one * counter, 0) + many
        found = joined
    return found


def walked_heaps(coefficients, most):
    """For each number from 0 to most whether it is one of the HEAPS, by adding up, number by number."""
    sizes = sorted({abs(one) for one in coefficients})
    found = [True] + [False] * most
    for number in range(1, most + 1):
        for size in sizes:
            if size <= number and found[number - size]:
                found[number] = True
                break
    return found


def all_gaps_to(coefficients):
    """A number above which there is no gap: two numbers without a common divisor leave none from their product on."""
    return max([abs(one) for one in coefficients], default=1) ** 2


def walked_gaps(coefficients):
    """The gaps as the document tells them, by adding up."""
    found = walked_heaps(coefficients, all_gaps_to(coefficients))
    common = math.gcd(*coefficients)
    return [number for number, is_heap in enumerate(found) if not is_heap and common and number % common == 0]


def walked_parting(coefficients, bounds):
    """The holes that part, as the document tells them."""
    found = walked_sums(coefficients, bounds)
    least, greatest = min(found), max(found)
    common = math.gcd(*coefficients)
    heaps = walked_heaps(coefficients, greatest - least)
    return [number for number in range(least, greatest + 1, max(1, common))
            if number not in found and heaps[number - least] and heaps[greatest - number]]


def quickly(test, function, *told):
    """What the function tells, which must not take more than a few seconds of work."""
    begin = time.process_time()
    answer = function(*told)
    test.assertLess(time.process_time() - begin, 4, (function.__name__, told))
    return answer


def sizes_to(most):
    """The numbers from -most to most, but 0."""
    return [number for number in range(-most, most + 1) if number != 0]


def cases_of(many, most, bound):
    """All COEFFICIENTS of so many numbers to most, with all BOUNDS to bound."""
    for coefficients in itertools.product(sizes_to(most), repeat=many):
        for bounds in itertools.product(range(1, bound + 1), repeat=many):
            yield coefficients, bounds


def drawn_cases(many_cases, many, most, bound, seed):
    """Cases from a told seed: the same ones in each run."""
    source = random.Random(seed)
    for _ in range(many_cases):
        coefficients = tuple(source.choice(sizes_to(most)) for _ in range(many))
        yield coefficients, tuple(source.randint(1, bound) for _ in range(many))


def small_cases():
    """Many small COEFFICIENTS and BOUNDS, () ahead of all."""
    yield (), ()
    yield from cases_of(1, 7, 4)
    yield from cases_of(2, 6, 3)
    yield from drawn_cases(500, 3, 8, 4, 3)
    yield from drawn_cases(300, 4, 9, 3, 4)
    yield from drawn_cases(100, 5, 9, 2, 5)
    yield from drawn_cases(60, 6, 12, 2, 6)
    # Common divisors above 1 are rare among drawn numbers.
    for factor in (2, 3, 10):
        for coefficients, bounds in drawn_cases(60, 3, 6, 4, factor):
            yield tuple(factor * one for one in coefficients), bounds


def walked_rounds(loops):
    """All ROUNDS."""
    return list(itertools.product(*[range(bound + 1) for _, bound in loops]))


def walked_cell(place, counters):
    """The cell of a PLACE in a ROUND."""
    cell = place[1]
    for number, counter in zip(place[0], counters):
        cell += number * counter
    return cell


def walked_pairs(loops, one, other):
    """All pairs of a ROUND of one and a ROUND of other in which both PLACES are the same cell."""
    rounds = walked_rounds(loops)
    cells = [(mates, walked_cell(other, mates)) for mates in rounds]
    return [(counters, mates) for counters in rounds for mates, cell in cells if walked_cell(one, counters) == cell]


def some_loops(bounds):
    """LOOPS with these bounds."""
    return tuple(zip(("i", "loop", "abcdefgh"), bounds))


def drawn_places(many_cases, many, bound, most, seed):
    """LOOPS, so many, with two PLACES, from a told seed; many of the numbers are 0 or alike."""
    source = random.Random(seed)
    for _ in range(many_cases):
        loops = some_loops([source.randint(1, bound) for _ in range(many)])
        one = tuple(source.choice((0, source.randint(-most, most))) for _ in range(many))
        other = tuple(source.choice((own, source.randint(-most, most))) for own in one)
        yield loops, (one, source.randint(-most, most)), (other, source.randint(-most, most))


def nest_cases():
    """Many LOOPS, no loop ahead of all, with two PLACES of them."""
    for numbers in ((0, 0), (4, 5), (-3, -3)):
        yield (), ((), numbers[0]), ((), numbers[1])
    for bound in (1, 2, 3):
        for own, mate, number in itertools.product(range(-3, 4), range(-3, 4), range(-4, 5)):
            yield some_loops((bound,)), ((own,), 0), ((mate,), number)
    yield from drawn_places(250, 2, 3, 4, 301)
    yield from drawn_places(60, 3, 2, 4, 302)
    yield from drawn_places(20, 3, 3, 5, 303)
    for loops, one, other in drawn_places(40, 2, 4, 3, 304):
        # Great numbers alone; and equal PLACES.
        more = 10 ** 40 - 9
        yield loops, (one[0], one[1] + more), (other[0], other[1] + more)
        yield loops, one, one


def row_form(many):
    """The form of the text of a tuple of so many numbers."""
    number = r"-?[0-9]+"
    if many == 1:
        return rf"\({number},\)"
    return r"\(" + ", ".join([number] * many) + r"\)"


def has_form(thing, form):
    """Whether the text of the value has this form: it parts True from 1, and a list from a tuple."""
    return re.fullmatch(form, repr(thing)) is not None


def place_form(many):
    """The form of the text of a PLACE of so many loops."""
    return r"\(" + row_form(many) + r", -?[0-9]+\)"


def pair_form(many):
    """The form of the text of a pair of two tuples of so many numbers."""
    return r"\(" + row_form(many) + ", " + row_form(many) + r"\)"


def odd_things():
    """Values of all kinds that a thing may be, none of them a tuple of numbers from 0 on."""
    from quickexact.errors import NoCounter, Unfit

    nested = (1,)
    for _ in range(11):
        nested = (nested,)
    lists = [1]
    for _ in range(11):
        lists = [lists]
    return [
        None, True, False, 0, 1, -1, 10 ** 41, "", "1", "12", "(1,)", [], [1], [1, 1], [[1]], [None],
        (None,), (True,), (False,), (True, True), (1, True), (False, 1), (True, 1, 1), ("1",), ("",), ("a", "b"),
        (1, "1"), (1, None), ([1],), ([1], [1]), ((1,),), ((1, 1),), ((1,), (1,)), (1, (1,)), (1, [1]), (1, ()),
        ((),), ([],), (nested,), nested, lists, (lists, lists), Unfit(), NoCounter(1), (NoCounter(1),),
        (Unfit(), Unfit()),
    ]


def odd_nest_things():
    """More of these: what looks nearly like LOOPS, a PLACE, two ROUNDS, a SPOT or SIGNS, of whatever many loops."""
    found = odd_things()
    found += [(("i", "5"),), (("i", True),), (("i", 0),), (("i", -1),), (("i", None),), ((5, "i"),), (("i",),), (("i", 1, 1),),
              (["i", 1],), [("i", 1)], ("i", 1), (("", 1),), (("I", 1),), (("i j", 1),), (("i1", 1),), (("i\n", 1),),
              (("abcdefghi", 1),), (("\u00e4", 1),), (("i", 1), ("i", 1)), (("i", 1), ("j", 1), ("i", 2)),
              (("a", 1), ("b", 1), ("c", 1), ("d", 1)), ((b"i", 1),), ((("i",), 1),), (("i", 1), None), (("i", 1), ())]
    found += [((), True), ((), None), ((), "0"), ((), ()), ([], 0), ((), 0, 0), ((True,), 0), ((1,), False), ((1, True), 0),
              (("1",), 0), ((1,), (0,)), ([1], 0), ((1, 2, 3, 4), 0), (1, (1,)), ((None,), 0), (((1,),), 0)]
    found += [((), ()), ((0,),), ((0,), (0,), (0,)), ((0,), [0]), ([0], (0,)), [(0,), (0,)], ((0,), (True,)),
              ((False,), (0,)), ((0,), None), ((0,), 0), ((-1,), (0,)), ((0,), ("0",)), ((0, 0), (0,)), (((0,), (0,)),)]
    found += ["<=x", "= ", "<=>=", "<<<<", "==\n", ("=",), ["="], ("=", "="), b"=", "=" * 13, " ", "lt", 61]
    return found
