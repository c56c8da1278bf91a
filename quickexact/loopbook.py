"""A book of loops and named places, with deeds that can be taken back: point [13]."""

from quickexact.errors import Known, NoLoop, NoPlace, NothingDone, Unfit, Used
from quickexact.nests import MOST_LOOPS, may_touch, touch, touches_itself
from quickexact.things import subsets_of, with_tuples

MOST_PLACES = 6
MOST_BOUND = 20


def row_of(rows, name):
    """The row with this name ahead; None if there is none."""
    for row in rows:
        if row[0] == name:
            return row
    return None


def has_row(rows, name):
    """Whether a row has this name ahead."""
    return row_of(rows, name) is not None


def rows_but(rows, name):
    """The rows but the one with this name ahead."""
    return tuple([row for row in rows if row[0] != name])


def with_bound(loops, name, bound):
    """The loops, the one of this name with this bound."""
    return tuple([(own, bound) if own == name else (own, before) for own, before in loops])


def numbers_for(loops, terms):
    """For each loop the number of its term; 0 for a loop that is in none."""
    numbers = dict(terms)
    return tuple([numbers.get(name, 0) for name, _ in loops])


def first_bound(loops, name, one, other):
    """The least bound of this loop with which both PLACES touch; None if there is none."""
    low = 1
    high = MOST_BOUND + 1
    # Places that touch also touch with all greater bounds: half of those in question fall out each time.
    while low < high:
        middle = (low + high) // 2
        if touch(with_bound(loops, name, middle), one, other):
            high = middle
        else:
            low = middle + 1
    return low if low <= MOST_BOUND else None


def joined_groups(names, pairs):
    """The set of the sets of names that are led to one another by pairs."""
    groups = [(name,) for name in names]
    for pair in pairs:
        met = [group for group in groups if pair[0] in group or pair[1] in group]
        joined = tuple(sorted([name for group in met for name in group]))
        groups = [group for group in groups if group not in met] + [joined]
    return tuple(sorted(groups))


class Loopbook:
    """Loops and named places of one array, as they are so far."""

    def __init__(self):
        self._loops = ()
        self._places = ()
        # The loops and places ahead of each deed that can be taken back.
        self._before = []

    def _change(self, loops, places):
        """Do a deed behind which there are these loops and places."""
        self._before.append((self._loops, self._places))
        self._loops = loops
        self._places = places

    def _check_loop(self, name):
        """Raise NoLoop if there is no loop of this name."""
        if not has_row(self._loops, name):
            raise NoLoop(name)

    def _check_place(self, name):
        """Raise NoPlace if there is no place of this name."""
        if not has_row(self._places, name):
            raise NoPlace(name)

    def add_loop(self, name, bound):
        """Put one loop more inside all others."""
        if has_row(self._loops, name):
            raise Known(name)
        if len(self._loops) >= MOST_LOOPS:
            raise Unfit()
        self._change(self._loops + ((name, bound),), self._places)

    def set_bound(self, name, bound):
        """Give a loop another bound."""
        self._check_loop(name)
        self._change(with_bound(self._loops, name, bound), self._places)

    def drop_loop(self, name):
        """Take out a loop that is in the terms of no place."""
        self._check_loop(name)
        if any([has_row(terms, name) for _, terms, _ in self._places]):
            raise Used(name)
        self._change(rows_but(self._loops, name), self._places)

    def add_place(self, name, terms, number):
        """Put in a place."""
        if has_row(self._places, name):
            raise Known(name)
        kept = with_tuples(terms)
        for loop, _ in kept:
            self._check_loop(loop)
        if len(self._places) >= MOST_PLACES:
            raise Unfit()
        self._change(self._loops, tuple(sorted(self._places + ((name, kept, number),))))

    def drop_place(self, name):
        """Take out a place."""
        self._check_place(name)
        self._change(self._loops, rows_but(self._places, name))

    def undo(self):
        """Take back the last deed that is not taken back."""
        if len(self._before) == 0:
            raise NothingDone()
        loops, places = self._before.pop()
        self._loops = loops
        self._places = places

    def loops(self):
        """The LOOPS so far."""
        return self._loops

    def places(self):
        """The ascending tuple of the triples (name, terms, number)."""
        return self._places

    def place_of(self, name):
        """The PLACE of this name."""
        self._check_place(name)
        _, terms, number = row_of(self._places, name)
        return numbers_for(self._loops, terms), number

    def __len__(self):
        """How many deeds can be taken back."""
        return len(self._before)

    def twin(self):
        """An equal Loopbook with the same deeds to be taken back."""
        other = Loopbook()
        other._loops = self._loops
        other._places = self._places
        other._before = list(self._before)
        return other

    def __eq__(self, other):
        """Whether other is a Loopbook with the same loops and places so far."""
        if not isinstance(other, Loopbook):
            return False
        return self._loops == other._loops and self._places == other._places

    def _both(self, one, other):
        """The pair of both PLACES."""
        return self.place_of(one), self.place_of(other)

    def _pairs(self):
        """The ascending list of all pairs of places, one less than other."""
        names = [name for name, _, _ in self._places]
        return [pair for pair in subsets_of(names) if len(pair) == 2]

    def touch(self, one, other):
        """Whether both places touch; whether it touches itself, if they are the same."""
        first, second = self._both(one, other)
        if one == other:
            return touches_itself(self._loops, first)
        return touch(self._loops, first, second)

    def test(self, one, other):
        """Whether the test lets the number of the equation of both places."""
        first, second = self._both(one, other)
        return may_touch(self._loops, first, second)

    def touching_pairs(self):
        """The set of the pairs of places that touch."""
        return tuple([pair for pair in self._pairs() if self.touch(pair[0], pair[1])])

    def alarms(self):
        """The set of the pairs of places that the test lets and that do not touch."""
        let = [pair for pair in self._pairs() if self.test(pair[0], pair[1])]
        return tuple([pair for pair in let if not self.touch(pair[0], pair[1])])

    def groups(self):
        """The set of the sets of places that are led to one another by touches."""
        return joined_groups([name for name, _, _ in self._places], self.touching_pairs())

    def most_apart(self):
        """The greatest set of places no two of which touch, of several the least."""
        pairs = self.touching_pairs()
        apart = [some for some in subsets_of([name for name, _, _ in self._places])
                 if not any([one in some and other in some for one, other in pairs])]
        # They ascend among those with as many places, and max takes the first one.
        return max(apart, key=len)

    def touch_from(self, name, one, other):
        """The least bound of this loop with which both places touch; None if there is none."""
        self._check_loop(name)
        first, second = self._both(one, other)
        return first_bound(self._loops, name, first, second)

    def bound_till(self, name):
        """The greatest bound of this loop with which no two places touch; None if there is none."""
        self._check_loop(name)
        firsts = [self.touch_from(name, one, other) for one, other in self._pairs()]
        least = min([first for first in firsts if first is not None], default=MOST_BOUND + 1)
        return None if least == 1 else least - 1
