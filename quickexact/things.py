"""What several files of the package share: kinds of values, and small steps with tuples."""

from itertools import combinations

MOST_LETTERS = 8


def is_number(thing):
    """Whether thing is a number: an int that is not a bool."""
    return isinstance(thing, int) and not isinstance(thing, bool)


def is_numbers(thing):
    """Whether thing is a tuple of numbers alone, maybe ()."""
    return isinstance(thing, tuple) and all([is_number(one) for one in thing])


def is_pair(thing):
    """Whether thing is a tuple of two."""
    return isinstance(thing, tuple) and len(thing) == 2


def is_name(thing):
    """Whether thing is a NAME: a string of 1 to 8 letters a to z."""
    if not isinstance(thing, str) or not 1 <= len(thing) <= MOST_LETTERS:
        return False
    return all(["a" <= letter <= "z" for letter in thing])


def are_unlike(values):
    """Whether no value stands twice among these."""
    return len(set(values)) == len(values)


def with_tuples(value):
    """The same value with a tuple in the place of each list, at any depth."""
    if isinstance(value, (list, tuple)):
        return tuple([with_tuples(one) for one in value])
    return value


def moved(values, place, by):
    """The tuple of numbers, the one at this place changed by so much."""
    return values[:place] + (values[place] + by,) + values[place + 1:]


def subsets_of(values):
    """All tuples of some of the values, in their order: those of fewer ahead, else by the places they have."""
    return [some for many in range(len(values) + 1) for some in combinations(values, many)]
