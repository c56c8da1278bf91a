"""Two places that touch in a told order of their rounds: point [10]."""

from math import gcd

from quickexact.nests import cell_at, is_touching, rounds_of
from quickexact.sums import divides
from quickexact.unknown import comes_at_all

SIGNS = "<=>"
TURNED = {"<": ">", "=": "=", ">": "<"}


def is_signs(loops, thing):
    """Whether thing is SIGNS of the loops."""
    if not isinstance(thing, str) or len(thing) != len(loops):
        return False
    return all([sign in SIGNS for sign in thing])


def sign_between(counter, other):
    """The sign with which the one number stands to the other."""
    if counter == other:
        return "="
    return "<" if counter < other else ">"


def signs_between(counters, others):
    """The SIGNS with which the ROUND counters stands to the ROUND others."""
    return "".join([sign_between(counter, other) for counter, other in zip(counters, others)])


def turned_signs(signs):
    """The signs as they are seen from the other ROUND."""
    return "".join([TURNED[sign] for sign in signs])


def signs_of(many):
    """The ascending list of all SIGNS of so many loops."""
    found = [""]
    for _ in range(many):
        found = [signs + sign for signs in found for sign in SIGNS]
    return found


def goal_of(one, other):
    """The value of a pair of ROUNDS in which both PLACES are the same cell."""
    return other[1] - one[1]


def corners_of(bound, sign):
    """Pairs of numbers of a loop, among them those with the least and the greatest value by whatever numbers."""
    if sign == "=":
        return (0, 0), (bound, bound)
    if sign == "<":
        return (0, 1), (0, bound), (bound - 1, bound)
    return (1, 0), (bound, 0), (bound, bound - 1)


def common_of(own, others, bound, sign):
    """The greatest common divisor of all differences of two values of one loop."""
    if sign == "=":
        return abs(own - others)
    # With the bound 1 there is just one pair: (0, 1) or (1, 0).
    return gcd(own, others) if bound > 1 else 0


def lets_with(loops, one, other, signs):
    """Whether the test lets SIGNS."""
    least = 0
    greatest = 0
    common = 0
    for own, others, (_, bound), sign in zip(one[0], other[0], loops, signs):
        values = [own * counter - others * mate for counter, mate in corners_of(bound, sign)]
        least += min(values)
        greatest += max(values)
        common = gcd(common, common_of(own, others, bound, sign))
    goal = goal_of(one, other)
    return least <= goal <= greatest and divides(common, goal - least)


def comes_with_signs(one, other, signs):
    """Whether both PLACES touch with SIGNS, with some bounds."""
    coefficients = []
    number = goal_of(one, other)
    for own, others, sign in zip(one[0], other[0], signs):
        coefficients.append(own - others)
        if sign == "<":
            coefficients.append(-others)
            number += others
        elif sign == ">":
            coefficients.append(own)
            number -= own
    return comes_at_all([own for own in coefficients if own != 0], number)


def signs_at_all(one, other):
    """The ascending list of the SIGNS with which both PLACES touch with some bounds."""
    return [signs for signs in signs_of(len(one[0])) if comes_with_signs(one, other, signs)]


def shown_values(own, others, bound, sign):
    """The values of one loop with this sign, each with a pair of its numbers that shows it, as a dict."""
    # A loop that is in neither place has the value 0 alone, and two of its rounds show each sign.
    last = 1 if own == 0 and others == 0 else bound
    return {own * counter - others * mate: (counter, mate)
            for counter in range(last + 1) for mate in range(last + 1) if sign_between(counter, mate) == sign}


def tables_of(loops, one, other, signs):
    """For each loop its values with its sign, as shown_values tells them."""
    return [shown_values(own, others, bound, sign)
            for own, others, (_, bound), sign in zip(one[0], other[0], loops, signs)]


def layers_with(tables):
    """For no loop, the first one, the first two, and so on: the values of them all.

    Each layer is an integer with a bit for each value, counted from the least one.
    """
    layers = [1]
    for table in tables:
        least = min(table)
        joined = 0
        for value in table:
            joined |= layers[-1] << (value - least)
        layers.append(joined)
    return layers


def has_bit(layer, place):
    """Whether the layer has the bit with this number."""
    return 0 <= place < layer.bit_length() and (layer >> place) & 1 == 1


def touching_with(loops, one, other, signs):
    """A pair of ROUNDS that shows that both PLACES touch with SIGNS; None if there is none."""
    tables = tables_of(loops, one, other, signs)
    layers = layers_with(tables)
    rest = goal_of(one, other) - sum([min(table) for table in tables])
    if not has_bit(layers[-1], rest):
        return None
    pairs = []
    for place in reversed(range(len(tables))):
        table = tables[place]
        least = min(table)
        fitting = [value for value in table if has_bit(layers[place], rest - (value - least))]
        pairs.append(table[fitting[0]])
        rest -= fitting[0] - least
    pairs = list(reversed(pairs))
    return tuple([counter for counter, _ in pairs]), tuple([mate for _, mate in pairs])


def touch_with(loops, one, other, signs):
    """Whether both PLACES touch with SIGNS."""
    return touching_with(loops, one, other, signs) is not None


def is_touching_with(loops, one, other, signs, thing):
    """Whether thing is a pair of ROUNDS that shows that both PLACES touch with SIGNS."""
    return is_touching(loops, one, other, thing) and signs_between(thing[0], thing[1]) == signs


def all_signs(loops, one, other):
    """The ascending list of the SIGNS with which both PLACES touch."""
    return [signs for signs in signs_of(len(loops)) if touch_with(loops, one, other, signs)]


def missed_signs(loops, one, other):
    """The ascending list of the SIGNS that the test lets and with which they do not touch."""
    return [signs for signs in signs_of(len(loops))
            if lets_with(loops, one, other, signs) and not touch_with(loops, one, other, signs)]


def carried_by(loops, one, other):
    """The set of the NAMES of the loops at which a first sign stands that is not "="."""
    found = {}
    for signs in all_signs(loops, one, other):
        same = len(signs) - len(signs.lstrip("="))
        if same < len(signs):
            found[loops[same][0]] = True
    return tuple(sorted(found))


def rounds_by_cell(loops, place):
    """For each cell of the place the list of its ROUNDS, as a dict."""
    found = {}
    for counters in rounds_of(loops):
        found.setdefault(cell_at(place, counters), []).append(counters)
    return found


def distances(loops, one, other):
    """The ascending list of how far, loop by loop, two ROUNDS with the same cell are apart."""
    mates = rounds_by_cell(loops, other)
    found = {}
    for counters in rounds_of(loops):
        for others in mates.get(cell_at(one, counters), []):
            found[tuple([mate - counter for counter, mate in zip(counters, others)])] = True
    return sorted(found)
