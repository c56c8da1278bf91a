"""Tests in a row, each of them right wherever it tells something: point [12]."""

from quickexact.errors import Unfit
from quickexact.exact import first_hole, last_hole, whole_to
from quickexact.heaps import firsts_of, is_among
from quickexact.holes import is_settled
from quickexact.sums import divides, greatest_sum, layers_of, least_sum, many_at, step
from quickexact.things import subsets_of


class Facts:
    """What the tests ask of COEFFICIENTS with BOUNDS, found once for all numbers."""

    def __init__(self, coefficients, bounds):
        self.common = step(coefficients)
        self.least = least_sum(coefficients, bounds)
        self.greatest = greatest_sum(coefficients, bounds)
        self.end_holes = (first_hole(coefficients, bounds), last_hole(coefficients, bounds))
        self.whole = whole_to(coefficients, bounds) - self.least
        self.firsts = firsts_of(coefficients)
        self.settled = is_settled(coefficients, bounds)
        self.ways = layers_of(coefficients, bounds)[-1]


def ends_of(facts, number):
    """The pair of how far the number is from the least and from the greatest sum."""
    return number - facts.least, facts.greatest - number


def is_between(facts, number):
    """Whether the number is not below the least and not above the greatest sum."""
    return facts.least <= number <= facts.greatest


def is_gap(facts, number):
    """Whether the number is a gap."""
    return number > 0 and divides(facts.common, number) and not is_among(facts.firsts, number)


def divisor_says(facts, number):
    """What the test divisor tells."""
    return None if divides(facts.common, number) else "no"


def range_says(facts, number):
    """What the test range tells."""
    return None if is_between(facts, number) else "no"


def chain_says(facts, number):
    """What the test chain tells."""
    if number in facts.end_holes:
        return "no"
    if not is_between(facts, number) or not divides(facts.common, number):
        return None
    return "yes" if min(ends_of(facts, number)) <= facts.whole else None


def heaps_says(facts, number):
    """What the test heaps tells."""
    return "no" if any([is_gap(facts, far) for far in ends_of(facts, number)]) else None


def settled_says(facts, number):
    """What the test settled tells."""
    are_heaps = all([is_among(facts.firsts, far) for far in ends_of(facts, number)])
    return "yes" if are_heaps and facts.settled else None


def walk_says(facts, number):
    """What the test walk tells, of each number."""
    return "yes" if many_at(facts.ways, number - facts.least) > 0 else "no"


# In the order of the table.
TESTS = {
    "divisor": divisor_says,
    "range": range_says,
    "chain": chain_says,
    "heaps": heaps_says,
    "settled": settled_says,
    "walk": walk_says,
}


def check_tests(tests):
    """Raise Unfit if one of these is none of the six tests."""
    if not all([test in TESTS for test in tests]):
        raise Unfit()


def told_by(facts, number, test):
    """What this test tells of the number; None for nothing."""
    ask = TESTS[test]
    return ask(facts, number)


def tests_telling(facts, number):
    """The tests that tell something of the number, as a list, in the order of the table."""
    return [test for test in TESTS if told_by(facts, number, test) is not None]


def numbers_of(facts):
    """The list of the numbers from the least to the greatest sum."""
    return list(range(facts.least, facts.greatest + 1))


def says(coefficients, bounds, number, test):
    """What this test tells of the number: "no", "yes", or None for nothing."""
    check_tests((test,))
    return told_by(Facts(coefficients, bounds), number, test)


def verdict(coefficients, bounds, number):
    """The pair of the first test that tells something of the number, and of what it tells."""
    facts = Facts(coefficients, bounds)
    first = tests_telling(facts, number)[0]
    return first, told_by(facts, number, first)


def first_telling(coefficients, bounds, number):
    """The first test that tells something of the number."""
    return verdict(coefficients, bounds, number)[0]


def first_tests(facts):
    """For each number from the least to the greatest sum the first test that tells something, as a dict."""
    return {number: tests_telling(facts, number)[0] for number in numbers_of(facts)}


def numbers_told(coefficients, bounds, test):
    """The ascending list of the numbers of which this test is the first one that tells something."""
    check_tests((test,))
    firsts = first_tests(Facts(coefficients, bounds))
    return [number for number, first in firsts.items() if first == test]


def how_many_told(coefficients, bounds):
    """For each test of how many numbers it is the first one that tells something, as a tuple."""
    firsts = list(first_tests(Facts(coefficients, bounds)).values())
    return tuple([firsts.count(test) for test in TESTS])


def is_one_in(some, others):
    """Whether one of these at least is among the others."""
    return any([one in others for one in some])


def are_enough(coefficients, bounds, tests):
    """Whether of each number from the least to the greatest sum one of the tests tells something."""
    check_tests(tests)
    facts = Facts(coefficients, bounds)
    return all([is_one_in(tests, tests_telling(facts, number)) for number in numbers_of(facts)])


def fewest_tests(coefficients, bounds):
    """The least of the smallest sets of tests without walk that are enough; None if there is none."""
    facts = Facts(coefficients, bounds)
    # Many numbers are told by the same tests: one of them does for all.
    told = {}
    for number in numbers_of(facts):
        told[tuple(tests_telling(facts, number))] = True
    others = sorted([test for test in TESTS if test != "walk"])
    for tests in subsets_of(others):
        if all([is_one_in(tests, telling) for telling in told]):
            return tests
    return None


def false_alarms(coefficients, bounds, tests):
    """The ascending list of the numbers between that are no sums, and of which none of the tests tells "no"."""
    check_tests(tests)
    facts = Facts(coefficients, bounds)
    missed = [number for number in numbers_of(facts) if walk_says(facts, number) == "no"]
    return [number for number in missed if "no" not in [told_by(facts, number, test) for test in tests]]
