"""Kinds of values that several files of the package ask about."""


def is_number(thing):
    """Whether thing is a number: an int that is not a bool."""
    return isinstance(thing, int) and not isinstance(thing, bool)


def is_numbers(thing):
    """Whether thing is a tuple of numbers alone, maybe ()."""
    return isinstance(thing, tuple) and all([is_number(one) for one in thing])


def with_tuples(value):
    """The same value with a tuple in the place of each list, at any depth."""
    if isinstance(value, (list, tuple)):
        return tuple([with_tuples(one) for one in value])
    return value


def moved(values, place, by):
    """The tuple of numbers, the one at this place changed by so much."""
    return values[:place] + (values[place] + by,) + values[place + 1:]
