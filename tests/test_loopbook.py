"""A book of loops and places: points [2], [3], [9] and [13]."""

import copy
import inspect
import itertools
import math
import random
import unittest

from quickexact import nests
from quickexact.errors import Known, NoLoop, NoPlace, NothingDone, Unfit, Used
from quickexact.loopbook import Loopbook
from tests import helpers

GREAT = 10 ** 40
# Each method with the names of its arguments.
METHODS = {
    "add_loop": "name bound", "set_bound": "name bound", "drop_loop": "name", "add_place": "name terms number",
    "drop_place": "name", "undo": "", "loops": "", "places": "", "place_of": "name", "__len__": "", "twin": "",
    "__eq__": "other", "touch": "one other", "test": "one other", "touching_pairs": "", "alarms": "", "groups": "",
    "most_apart": "", "touch_from": "name one other", "bound_till": "name",
}
# Loops and places have some names in common.
LOOPS = ("i", "j", "p", "abcdefgh")
PLACES = ("p", "q", "i", "r", "a", "zz", "abcdefgh")


class Plain:
    """A plain book, by walks: what the document tells, deed by deed."""

    def __init__(self):
        self.loops = []
        self.places = {}
        self.before = []

    def deed(self, name, *told):
        """Do it; the class and values of the error, or None."""
        kept = (copy.deepcopy(self.loops), copy.deepcopy(self.places))
        refused = getattr(self, name)(*told)
        if refused is None and name != "undo":
            self.before.append(kept)
        return refused

    def add_loop(self, name, bound):
        if name in dict(self.loops):
            return Known, {"name": name}
        if len(self.loops) == 3:
            return Unfit, {}
        self.loops.append((name, bound))

    def set_bound(self, name, bound):
        if name not in dict(self.loops):
            return NoLoop, {"name": name}
        self.loops = [(own, bound if own == name else old) for own, old in self.loops]

    def drop_loop(self, name):
        if name not in dict(self.loops):
            return NoLoop, {"name": name}
        if any(name in dict(terms) for terms, _ in self.places.values()):
            return Used, {"name": name}
        self.loops = [row for row in self.loops if row[0] != name]

    def add_place(self, name, terms, number):
        if name in self.places:
            return Known, {"name": name}
        for own, _ in terms:
            if own not in dict(self.loops):
                return NoLoop, {"name": own}
        if len(self.places) == 6:
            return Unfit, {}
        self.places[name] = (tuple(tuple(row) for row in terms), number)

    def drop_place(self, name):
        if name not in self.places:
            return NoPlace, {"name": name}
        del self.places[name]

    def undo(self):
        if not self.before:
            return NothingDone, {}
        self.loops, self.places = self.before.pop()

    def place_of(self, name):
        terms, number = self.places[name]
        return tuple(dict(terms).get(own, 0) for own, _ in self.loops), number

    def cells(self, name, loops=None):
        """The cells of a place in all rounds, by adding up."""
        numbers, number = self.place_of(name)
        bounds = [bound for _, bound in loops or self.loops]
        return {total + number for total in helpers.walked_sums(numbers, bounds)}

    def touch(self, one, other, loops=None):
        if one == other:
            return len(self.cells(one)) < math.prod(bound + 1 for _, bound in self.loops)
        return not self.cells(one, loops).isdisjoint(self.cells(other, loops))

    def test(self, one, other):
        first, second = self.place_of(one), self.place_of(other)
        rows = [(number, bound) for number, (_, bound) in zip(first[0], self.loops)]
        rows += [(-number, bound) for number, (_, bound) in zip(second[0], self.loops)]
        least = sum(min(0, number * bound) for number, bound in rows)
        greatest = sum(max(0, number * bound) for number, bound in rows)
        common = math.gcd(*[number for number, _ in rows])
        goal = second[1] - first[1]
        return least <= goal <= greatest and (goal % common == 0 if common else goal == 0)

    def pairs(self):
        return list(itertools.combinations(sorted(self.places), 2))

    def touching_pairs(self):
        return tuple(pair for pair in self.pairs() if self.touch(*pair))

    def alarms(self):
        return tuple(pair for pair in self.pairs() if self.test(*pair) and not self.touch(*pair))

    def groups(self):
        touching = self.touching_pairs()
        found = set()
        for name in self.places:
            group = {name}
            while True:
                more = {own for pair in touching for own in pair if group & set(pair)} | group
                if more == group:
                    break
                group = more
            found.add(tuple(sorted(group)))
        return tuple(sorted(found))

    def most_apart(self):
        touching = self.touching_pairs()
        for many in range(len(self.places), -1, -1):
            for some in itertools.combinations(sorted(self.places), many):
                if not any(one in some and other in some for one, other in touching):
                    return some

    def with_bound(self, name, bound):
        return [(own, bound if own == name else old) for own, old in self.loops]

    def touch_from(self, name, one, other):
        for bound in range(1, 21):
            if self.touch(one, other, self.with_bound(name, bound)):
                return bound

    def bound_till(self, name):
        told = None
        for bound in range(1, 21):
            if not any(self.touch(*pair, self.with_bound(name, bound)) for pair in self.pairs()):
                told = bound
        return told


def drawn_terms(source, loops, most):
    """TERMS, most of them of these loops."""
    names = sorted(name for name in {*loops, source.choice(LOOPS)} if source.random() < 0.6)
    return tuple((name, source.choice((-1, 1)) * source.randint(1, most)) for name in names)


def drawn_deed(source, plain, most_bound, most):
    """A deed with its arguments; most are not refused, and some are."""
    name = source.choice(("add_loop", "add_loop", "set_bound", "drop_loop", "add_place", "add_place", "add_place", "add_place",
                          "drop_place", "undo", "undo"))
    loop = source.choice(LOOPS)
    place = source.choice(PLACES)
    bound = source.randint(1, most_bound)
    if name == "add_place":
        return name, (place, drawn_terms(source, dict(plain.loops), most), source.randint(-9, 9))
    if name in ("add_loop", "set_bound"):
        return name, (loop, bound)
    return name, () if name == "undo" else ((loop,) if name == "drop_loop" else (place,))


def done(book, name, told):
    """Do it; the class and values of the error, or what is returned."""
    try:
        return getattr(book, name)(*told)
    except (ValueError, LookupError) as error:
        return error.__class__, vars(error)


def great_book(seed, many_bounds=(20, 20, 20)):
    """A book as great as it may be."""
    source = random.Random(seed)
    book = Loopbook()
    for name, bound in zip("ijk", many_bounds):
        book.add_loop(name, bound)
    for name in "abcdef":
        terms = tuple((loop, source.choice((-1, 1)) * source.choice((20, 20, 18, 19, 16, 6))) for loop in "ijk")
        book.add_place(name, terms, source.randint(-900, 900))
    return book


class Methods(unittest.TestCase):
    def test_each_is_defined_in_the_class(self):
        for name, words in METHODS.items():
            with self.subTest(name=name):
                self.assertIn(name, vars(Loopbook))
                self.assertEqual(list(inspect.signature(vars(Loopbook)[name]).parameters), ["self"] + words.split())
        self.assertEqual(Loopbook.__module__, "quickexact.loopbook")
        self.assertEqual(Loopbook.__bases__, (object,))
        self.assertEqual(list(inspect.signature(Loopbook).parameters), [])

    def test_iteration_raises(self):
        for book in (Loopbook(), great_book(1)):
            for way in (iter, list, tuple, sorted, lambda own: [row for row in own], lambda own: "i" in own,
                        lambda own: [*own], lambda own: dict(own)):
                with self.assertRaises(TypeError):
                    way(book)

    def test_by_name(self):
        book = Loopbook()
        self.assertIsNone(book.add_loop(name="i", bound=1))
        self.assertIsNone(book.set_bound(bound=3, name="i"))
        self.assertIsNone(book.add_place(number=0, terms=(("i", 2),), name="p"))
        self.assertIsNone(book.add_place("q", number=3, terms=[["i", 1]]))
        self.assertIs(book.touch(one="p", other="q"), True)
        self.assertIs(book.test(other="q", one="p"), True)
        self.assertEqual(book.touch_from(name="i", other="q", one="p"), 2)
        self.assertEqual(book.place_of(name="q"), ((1,), 3))
        self.assertEqual(book.bound_till(name="i"), 1)
        self.assertIsNone(book.drop_place(name="p"))
        self.assertIsNone(book.drop_place(name="q"))
        self.assertIsNone(book.drop_loop(name="i"))
        self.assertEqual(len(book), 7)

    def test_an_empty_book(self):
        book = Loopbook()
        self.assertEqual((book.loops(), book.places(), len(book)), ((), (), 0))
        self.assertEqual((book.touching_pairs(), book.alarms(), book.groups(), book.most_apart()), ((), (), (), ()))
        self.assertEqual(book, Loopbook())
        self.assertEqual(book.twin(), book)
        self.assertEqual(done(book, "undo", ()), (NothingDone, {}))
        self.assertEqual(done(book, "bound_till", ("i",)), (NoLoop, {"name": "i"}))
        book.add_loop("i", 20)
        self.assertEqual(book.bound_till("i"), 20)
        book.undo()
        self.assertEqual((book, len(book)), (Loopbook(), 0))
        # Places without any loop.
        book.add_place("p", (), -7)
        book.add_place("q", [], -7)
        book.add_place("r", (), 7)
        self.assertEqual(book.places(), (("p", (), -7), ("q", (), -7), ("r", (), 7)))
        self.assertEqual(book.place_of("p"), ((), -7))
        self.assertEqual(book.touching_pairs(), (("p", "q"),))
        self.assertEqual(book.groups(), (("p", "q"), ("r",)))
        self.assertEqual(book.most_apart(), ("p", "r"))
        self.assertEqual((book.touch("p", "p"), book.test("p", "p"), book.test("p", "r")), (False, True, False))


class Deeds(unittest.TestCase):
    def compare(self, book, plain):
        self.assertEqual(book.loops(), tuple(plain.loops))
        places = tuple((name,) + plain.places[name] for name in sorted(plain.places))
        self.assertEqual(repr(book.places()), repr(places))
        self.assertEqual(len(book), len(plain.before))
        for name in PLACES:
            if name in plain.places:
                self.assertEqual(repr(book.place_of(name)), repr(plain.place_of(name)))

    def compare_all(self, book, plain):
        self.compare(book, plain)
        for one, other in itertools.product(sorted(plain.places), repeat=2):
            self.assertIs(book.touch(one, other), plain.touch(one, other))
            self.assertIs(book.test(one, other), plain.test(one, other))
            for name, _ in plain.loops if one != other else ():
                self.assertEqual(book.touch_from(name, one, other), plain.touch_from(name, one, other))
        for name in ("touching_pairs", "alarms", "groups", "most_apart"):
            self.assertEqual(repr(getattr(book, name)()), repr(getattr(plain, name)()))
        for name, _ in plain.loops:
            self.assertEqual(book.bound_till(name), plain.bound_till(name))

    def test_beside_a_plain_book(self):
        refused = {}
        for seed in range(60):
            source = random.Random(700 + seed)
            book, plain = Loopbook(), Plain()
            for step in range(60):
                name, told = drawn_deed(source, plain, 4, 4)
                kept = (book.loops(), book.places(), len(book))
                expected = plain.deed(name, *told)
                self.assertEqual(done(book, name, told), expected, (name, told))
                if expected is not None:
                    refused[name, expected[0]] = True
                    self.assertEqual((book.loops(), book.places(), len(book)), kept)
                self.compare(book, plain)
                if step == 59 or (seed < 25 and step % 20 == 19):
                    self.compare_all(book, plain)
        self.assertEqual(set(refused), {
            ("add_loop", Known), ("add_loop", Unfit), ("set_bound", NoLoop), ("drop_loop", NoLoop), ("drop_loop", Used),
            ("add_place", Known), ("add_place", NoLoop), ("add_place", Unfit), ("drop_place", NoPlace), ("undo", NothingDone)})

    def test_alarms_of_a_plain_book(self):
        alarms = 0
        for seed in range(25):
            source = random.Random(800 + seed)
            book, plain = Loopbook(), Plain()
            for name in "ij":
                bound = source.randint(1, 3)
                book.add_loop(name, bound)
                plain.add_loop(name, bound)
            for name in "abcd":
                terms = tuple((loop, source.randint(2, 9)) for loop in "ij" if source.random() < 0.7)
                number = source.randint(-9, 9)
                book.add_place(name, terms, number)
                plain.add_place(name, terms, number)
            self.assertEqual(book.alarms(), plain.alarms())
            self.assertEqual(book.touching_pairs(), plain.touching_pairs())
            alarms += len(book.alarms())
        self.assertGreater(alarms, 10)

    def test_undo_behind_each_deed(self):
        book = Loopbook()
        deeds = (("add_loop", ("i", 1)), ("add_loop", ("j", 2)), ("set_bound", ("i", 3)), ("set_bound", ("i", 3)),
                 ("add_place", ("i", (("i", 2),), 5)), ("add_place", ("q", (), -GREAT)), ("drop_loop", ("j",)),
                 ("drop_place", ("i",)), ("drop_loop", ("i",)), ("add_loop", ("k", 20)), ("drop_place", ("q",)))
        kept = []
        for name, told in deeds:
            kept.append(book.twin())
            self.assertIsNone(done(book, name, told))
            self.assertEqual(len(book), len(kept))
        for many in reversed(range(len(deeds))):
            # What is refused is no deed: nothing of it is taken back.
            self.assertIs(done(book, "drop_place", ("none",))[0], NoPlace)
            self.assertIsNone(book.undo())
            self.assertEqual((book, len(book)), (kept[many], many))
            self.assertEqual((book.loops(), book.places()), (kept[many].loops(), kept[many].places()))
        for _ in range(2):
            self.assertEqual(done(book, "undo", ()), (NothingDone, {}))
        self.assertIsNone(book.add_loop("i", 1))
        self.assertIsNone(book.undo())
        self.assertEqual(book, Loopbook())

    def test_a_deed_that_changes_nothing_is_one(self):
        book = Loopbook()
        book.add_loop("i", 4)
        for many in range(2, 6):
            book.set_bound("i", 4)
            self.assertEqual((book.loops(), len(book)), ((("i", 4),), many))
        for many in reversed(range(1, 5)):
            book.undo()
            self.assertEqual((book.loops(), len(book)), ((("i", 4),), many))

    def test_sixty_deeds(self):
        book = Loopbook()
        for many in range(30):
            book.add_loop("i", 1 + many % 20)
            book.drop_loop("i")
        self.assertEqual(len(book), 60)
        for many in reversed(range(60)):
            book.undo()
            self.assertEqual(len(book), many)
            self.assertEqual(book.loops(), (("i", 1 + many // 2 % 20),) if many % 2 else ())

    def test_the_order_of_errors(self):
        book = Loopbook()
        for name in "ijk":
            book.add_loop(name, 2)
        for name in "abcdef":
            book.add_place(name, (("j", 1),), 0)
        kept = book.twin()
        for name, told, refused in (
                ("add_loop", ("j", 3), (Known, {"name": "j"})), ("add_loop", ("m", 3), (Unfit, {})),
                ("add_loop", ("a", 3), (Unfit, {})), ("set_bound", ("a", 3), (NoLoop, {"name": "a"})),
                ("drop_loop", ("m",), (NoLoop, {"name": "m"})), ("drop_loop", ("j",), (Used, {"name": "j"})),
                ("add_place", ("a", (("m", 1),), 0), (Known, {"name": "a"})),
                ("add_place", ("g", (("j", 1), ("m", 1), ("n", 1)), 0), (NoLoop, {"name": "m"})),
                ("add_place", ("g", (("j", 1), ("k", 1)), 0), (Unfit, {})), ("add_place", ("j", (), 0), (Unfit, {})),
                ("drop_place", ("j",), (NoPlace, {"name": "j"})), ("place_of", ("j",), (NoPlace, {"name": "j"})),
                ("touch", ("x", "y"), (NoPlace, {"name": "x"})), ("touch", ("a", "y"), (NoPlace, {"name": "y"})),
                ("touch", ("y", "y"), (NoPlace, {"name": "y"})), ("test", ("x", "a"), (NoPlace, {"name": "x"})),
                ("test", ("y", "x"), (NoPlace, {"name": "y"})), ("touch_from", ("a", "x", "y"), (NoLoop, {"name": "a"})),
                ("touch_from", ("i", "x", "y"), (NoPlace, {"name": "x"})), ("touch_from", ("i", "a", "y"), (NoPlace, {"name": "y"})),
                ("bound_till", ("a",), (NoLoop, {"name": "a"}))):
            with self.subTest(name=name, told=told):
                self.assertEqual(done(book, name, told), refused)
                self.assertEqual((book, len(book)), (kept, 9))

    def test_a_loop_and_a_place_of_one_name(self):
        book = Loopbook()
        book.add_loop("i", 1)
        book.add_place("i", (("i", 3),), 0)
        self.assertEqual(book.places(), (("i", (("i", 3),), 0),))
        self.assertIs(done(book, "drop_loop", ("i",))[0], Used)
        book.drop_place("i")
        self.assertEqual(book.loops(), (("i", 1),))
        book.add_place("i", (), 4)
        book.drop_loop("i")
        self.assertEqual((book.loops(), book.place_of("i")), ((), ((), 4)))

    def test_places_by_the_loops_so_far(self):
        book = Loopbook()
        book.add_loop("j", 2)
        book.add_place("p", (("j", 5),), 1)
        self.assertEqual(book.place_of("p"), ((5,), 1))
        book.add_loop("i", 3)
        self.assertEqual(book.place_of("p"), ((5, 0), 1))
        self.assertIs(book.touch("p", "p"), True)
        book.add_place("q", (("i", -2), ("j", 7)), -1)
        self.assertEqual(book.place_of("q"), ((7, -2), -1))
        book.drop_place("q")
        book.drop_loop("i")
        self.assertEqual(book.place_of("p"), ((5,), 1))
        self.assertIs(book.touch("p", "p"), False)


class Copies(unittest.TestCase):
    def test_lists_are_kept_as_tuples(self):
        book = Loopbook()
        book.add_loop("i", 2)
        terms = [["i", 5]]
        book.add_place("p", terms, 1)
        terms[0][1] = 9
        terms.append(["k", 1])
        self.assertEqual(repr(book.places()), repr((("p", (("i", 5),), 1),)))
        self.assertEqual(repr(book.place_of("p")), repr(((5,), 1)))
        same = Loopbook()
        same.add_loop("i", 2)
        same.add_place("p", (("i", 5),), 1)
        self.assertEqual(book, same)

    def test_twins_go_apart(self):
        book = great_book(2)
        mate = book.twin()
        self.assertIs(mate.__class__, Loopbook)
        self.assertEqual((mate, len(mate), mate.loops(), mate.places()), (book, 9, book.loops(), book.places()))
        kept = (book.loops(), book.places())
        mate.undo()
        mate.set_bound("i", 1)
        mate.undo()
        mate.undo()
        self.assertEqual((len(book), book.loops(), book.places()), (9, *kept))
        self.assertEqual(len(mate), 7)
        self.assertNotEqual(mate, book)
        book.drop_place("a")
        self.assertEqual((len(book), len(mate)), (10, 7))
        self.assertIn("a", [name for name, _, _ in mate.places()])
        for _ in range(7):
            mate.undo()
        self.assertEqual(mate, Loopbook())
        self.assertEqual(done(mate, "undo", ()), (NothingDone, {}))
        book.undo()
        self.assertEqual((book.loops(), book.places()), kept)

    def test_equal_ones(self):
        one, other = Loopbook(), Loopbook()
        for name, bound in (("i", 1), ("j", 2)):
            one.add_loop(name, bound)
        for name, bound in (("j", 2), ("i", 1)):
            other.add_loop(name, bound)
        # The loops stand in another order.
        self.assertIs(one == other, False)
        self.assertIs(one != other, True)
        other.drop_loop("j")
        other.add_loop("j", 2)
        # By unlike deeds to the same.
        self.assertIs(one == other, True)
        self.assertIs(one != other, False)
        self.assertNotEqual(len(one), len(other))
        one.add_place("p", (("i", 1),), 0)
        one.add_place("q", (), 0)
        other.add_place("q", [], 0)
        self.assertIs(one == other, False)
        other.add_place("p", [["i", 1]], 0)
        self.assertIs(one == other, True)
        for name, terms, number in (("p", (("i", 2),), 0), ("p", (("i", 1),), 1), ("r", (("i", 1),), 0), ("p", (), 0)):
            third = other.twin()
            third.drop_place("p")
            third.add_place(name, terms, number)
            self.assertIs(one == third, False)
        third = other.twin()
        third.set_bound("i", 2)
        self.assertIs(one == third, False)

    def test_other_things_are_not_equal(self):
        for thing in helpers.odd_things() + [Unfit(), Known("i"), Loopbook, object(), 0, len]:
            self.assertIs(Loopbook() == thing, False)
            self.assertIs(thing == Loopbook(), False)
            self.assertIs(Loopbook() != thing, True)


class Answers(unittest.TestCase):
    def test_beside_the_functions_of_places(self):
        for seed in range(6):
            book = great_book(710 + seed, ((2, 3, 4), (20, 1, 2), (20, 20, 20))[seed % 3])
            names = [name for name, _, _ in book.places()]
            touching = []
            for one, other in itertools.combinations(names, 2):
                first, second = book.place_of(one), book.place_of(other)
                self.assertIs(book.touch(one, other), nests.touch(book.loops(), first, second))
                self.assertIs(book.test(other, one), nests.may_touch(book.loops(), second, first))
                if book.touch(one, other):
                    touching.append((one, other))
            for one in names:
                self.assertIs(book.touch(one, one), nests.touches_itself(book.loops(), book.place_of(one)))
                self.assertIs(book.test(one, one), True)
            self.assertEqual(book.touching_pairs(), tuple(touching))

    def test_greater_bounds_touch_too(self):
        for seed in range(8):
            book = great_book(720 + seed, (3, 2, 4))
            for loop, (one, other) in itertools.product("ijk", itertools.combinations("abcdef", 2)):
                least = book.touch_from(loop, one, other)
                for bound in (1, 2, 5, 11, 19, 20):
                    book.set_bound(loop, bound)
                    self.assertIs(book.touch(one, other), least is not None and bound >= least)
                    self.assertEqual(book.touch_from(loop, one, other), least)
                    book.undo()

    def test_bound_till_beside_touching_pairs(self):
        told = {}
        for seed in range(40):
            source = random.Random(730 + seed)
            book = Loopbook()
            book.add_loop("i", source.randint(1, 20))
            book.add_loop("j", source.randint(1, 3))
            for name in "abc":
                terms = (("i", source.choice((4, 6, -4, 8))), ("j", source.choice((2, 4, 18))))
                book.add_place(name, terms, source.randint(-40, 40) if seed % 2 else 2 * source.randint(-30, 30))
            for loop in "ij":
                till = None
                for bound in range(1, 21):
                    book.set_bound(loop, bound)
                    if book.touching_pairs() == ():
                        till = bound
                    book.undo()
                self.assertEqual(book.bound_till(loop), till)
                told["none" if till is None else "all" if till == 20 else "some"] = True
        self.assertEqual(set(told), {"none", "all", "some"})

    def test_most_apart_takes_the_least_of_the_greatest(self):
        book = Loopbook()
        for name, number in (("a", 1), ("b", 1), ("c", 2), ("d", 2), ("e", 3), ("f", 3)):
            book.add_place(name, (), number)
        self.assertEqual(book.most_apart(), ("a", "c", "e"))
        self.assertEqual(book.groups(), (("a", "b"), ("c", "d"), ("e", "f")))
        book.drop_place("a")
        self.assertEqual(book.most_apart(), ("b", "c", "e"))
        # One that touches all others is not in the greatest set, though it is the least one.
        book = Loopbook()
        book.add_loop("i", 20)
        book.add_place("a", (("i", 1),), 0)
        for name, number in (("b", 3), ("c", 5), ("d", 7)):
            book.add_place(name, (), number)
        self.assertEqual(book.most_apart(), ("b", "c", "d"))
        self.assertEqual(book.groups(), (("a", "b", "c", "d"),))
        self.assertEqual(book.touching_pairs(), (("a", "b"), ("a", "c"), ("a", "d")))

    def test_groups_that_are_led_far(self):
        # Each touches the next one alone, and the names stand in no order.
        book = Loopbook()
        book.add_loop("i", 1)
        for at, name in enumerate(("d", "a", "f", "c", "e", "b")):
            book.add_place(name, (("i", 1),), at + (at > 3) * 5)
        self.assertEqual(book.touching_pairs(), (("a", "d"), ("a", "f"), ("b", "e"), ("c", "f")))
        self.assertEqual(book.groups(), (("a", "c", "d", "f"), ("b", "e")))
        self.assertEqual(book.most_apart(), ("a", "b", "c"))

    def test_great_numbers_alone(self):
        book = Loopbook()
        book.add_loop("i", 20)
        book.add_place("p", (("i", 20),), GREAT)
        book.add_place("q", (("i", -20),), GREAT - 60)
        book.add_place("r", (("i", 20),), -GREAT)
        self.assertEqual(book.touching_pairs(), ())
        self.assertEqual(book.place_of("r"), ((20,), -GREAT))
        self.assertIs(book.test("p", "r"), False)
        book.add_place("s", (("i", -20),), GREAT + 60)
        self.assertEqual(book.touching_pairs(), (("p", "s"), ("q", "s")))
        self.assertEqual(book.touch_from("i", "p", "s"), 2)
        self.assertEqual(book.bound_till("i"), 1)

    def test_as_great_as_can_be(self):
        for seed in range(4):
            book = great_book(740 + seed)
            for name in ("touching_pairs", "alarms", "groups", "most_apart", "twin", "loops", "places"):
                helpers.quickly(self, getattr(book, name))
            for loop in "ijk":
                helpers.quickly(self, book.bound_till, loop)
                helpers.quickly(self, book.touch_from, loop, "a", "f")
            helpers.quickly(self, book.touch, "a", "b")
            helpers.quickly(self, book.touch, "a", "a")

    def test_as_great_as_can_be_without_touches(self):
        # The test lets all of them, or none touch: all bounds are in question.
        book = Loopbook()
        for name in "ijk":
            book.add_loop(name, 20)
        for at, name in enumerate("abcdef"):
            book.add_place(name, (("i", 18), ("j", 12), ("k", -6)), at)
        self.assertEqual(book.touching_pairs(), ())
        self.assertEqual(helpers.quickly(self, book.bound_till, "j"), 20)
        self.assertEqual(book.most_apart(), tuple("abcdef"))
        self.assertIsNone(book.touch_from("k", "a", "b"))

    def test_nothing_is_changed_by_asking(self):
        book = great_book(750, (2, 3, 1))
        kept = book.twin()
        first = None
        for _ in range(2):
            told = [book.loops(), book.places(), book.place_of("a"), book.touch("a", "b"), book.touch("a", "a"),
                    book.test("a", "b"), book.touching_pairs(), book.alarms(), book.groups(), book.most_apart(),
                    book.touch_from("i", "a", "b"), book.bound_till("j")]
            self.assertEqual(told, first or told)
            first = told
        self.assertEqual((book, len(book)), (kept, 9))


if __name__ == "__main__":
    unittest.main()
