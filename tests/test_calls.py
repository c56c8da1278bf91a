"""How functions are called: point [2], and the names of the interface [16]."""

import copy
import importlib
import inspect
import unittest

# For each file: its functions, each with the names of its arguments.
INTERFACE = {
    "sums": {
        "is_coefficients": "thing",
        "is_bounds": "coefficients thing",
        "sum_of": "coefficients counters",
        "least_sum": "coefficients bounds",
        "greatest_sum": "coefficients bounds",
        "step": "coefficients",
        "is_let": "coefficients bounds number",
        "is_counters_for": "coefficients bounds number thing",
        "mirrored": "coefficients bounds number",
        "made_plain": "coefficients bounds number",
        "is_sum": "coefficients bounds number",
        "sums": "coefficients bounds",
        "sums_between": "coefficients bounds low high",
        "counters_for": "coefficients bounds number",
        "how_many_counters": "coefficients bounds number",
    },
    "exact": {
        "is_exact": "coefficients bounds",
        "chain": "coefficients bounds",
        "is_chain": "coefficients bounds thing",
        "first_hole": "coefficients bounds",
        "last_hole": "coefficients bounds",
        "whole_to": "coefficients bounds",
        "exact_from": "coefficients",
        "bound_needed": "coefficients bounds place",
        "idle_counters": "coefficients bounds",
    },
    "heaps": {
        "is_heap": "coefficients number",
        "gaps": "coefficients",
        "how_many_gaps": "coefficients",
        "greatest_gap": "coefficients",
        "least_in_class": "coefficients place number",
        "is_halved": "coefficients",
        "heap_counts": "coefficients number",
        "is_heap_counts": "coefficients number thing",
        "fewest_counts": "coefficients number",
        "needless": "coefficients",
        "bare_coefficients": "coefficients",
        "same_heaps": "one other",
    },
    "holes": {
        "holes": "coefficients bounds",
        "how_many_holes": "coefficients bounds",
        "is_hole": "coefficients bounds number",
        "parting_holes": "coefficients bounds",
        "is_settled": "coefficients bounds",
        "holes_from_ends": "coefficients bounds",
        "sure_width": "coefficients",
        "holes_at_last": "coefficients",
        "stays_settled": "coefficients bounds",
        "unsettled_above": "coefficients bounds",
        "is_unsettled_above": "coefficients bounds thing",
        "settled_from": "coefficients",
    },
    "unknown": {
        "why_never": "coefficients number",
        "comes_at_all": "coefficients number",
        "comes_from": "coefficients number",
        "shown_by": "coefficients number",
        "is_shown_by": "coefficients number thing",
        "comes_with": "coefficients bounds place number",
        "missed_for_ever": "coefficients low high",
        "lasting_holes": "coefficients bounds",
        "passing_holes": "coefficients bounds",
        "least_bounds_for": "coefficients number most",
    },
    "nests": {
        "is_loops": "thing",
        "is_place": "loops thing",
        "is_round": "loops thing",
        "how_many_rounds": "loops",
        "cell_at": "place counters",
        "equation_of": "loops one other",
        "may_touch": "loops one other",
        "touch": "loops one other",
        "touching": "loops one other",
        "is_touching": "loops one other thing",
        "how_many_touchings": "loops one other",
        "cells_of": "loops place",
        "touches_itself": "loops place",
    },
    "signs": {
        "is_signs": "loops thing",
        "signs_between": "counters others",
        "turned_signs": "signs",
        "lets_with": "loops one other signs",
        "signs_at_all": "one other",
        "touching_with": "loops one other signs",
        "touch_with": "loops one other signs",
        "is_touching_with": "loops one other signs thing",
        "all_signs": "loops one other",
        "missed_signs": "loops one other",
        "carried_by": "loops one other",
        "distances": "loops one other",
    },
    "several": {
        "is_spot": "loops thing",
        "cells_at": "spot counters",
        "tests_each": "loops one other",
        "shared_cells": "loops one other",
        "touch_all": "loops one other",
        "touching_all": "loops one other",
        "is_touching_all": "loops one other thing",
        "how_many_together": "loops one other",
        "parted_by": "loops one other",
        "least_parting": "loops one other",
        "flattened": "loops one other",
        "is_flattened": "loops one other thing",
    },
    "order": {
        "says": "coefficients bounds number test",
        "verdict": "coefficients bounds number",
        "first_telling": "coefficients bounds number",
        "numbers_told": "coefficients bounds test",
        "how_many_told": "coefficients bounds",
        "are_enough": "coefficients bounds tests",
        "fewest_tests": "coefficients bounds",
        "false_alarms": "coefficients bounds tests",
    },
    "texts": {
        "terms_text": "terms number",
        "terms_in": "text",
        "equation_text": "names coefficients number",
        "equation_in": "text",
        "loops_text": "loops",
        "loops_in": "text",
        "counters_text": "counters",
        "counters_in": "text",
    },
    "desk": {
        "is_request": "thing",
        "replies": "text",
    },
}

# Arguments with which each function of the first files is asked; thing stays a tuple.
ASKED = (
    {"coefficients": (), "bounds": (), "counters": (), "number": 0, "low": 0, "high": 0, "thing": (), "one": (),
     "other": (), "most": 1},
    {"coefficients": (1,), "bounds": (1,), "counters": (1,), "number": 1, "low": 0, "high": 1, "thing": (0,),
     "place": 0, "one": (1,), "other": (-1, 4), "most": 3},
    {"coefficients": (2, -3), "bounds": (2, 1), "counters": (2, 0), "number": 1, "low": -3, "high": 2,
     "thing": (2, 1), "place": 0, "one": (2, -3), "other": (2, 3, 5), "most": 4},
    {"coefficients": (4, -2, 2), "bounds": (3, 1, 2), "counters": (1, 0, 2), "number": 6, "low": 1, "high": 9,
     "thing": (1, 2, 0), "place": 2, "one": (4, -2, 2), "other": (3,), "most": 9},
    {"coefficients": (1, 3), "bounds": (1, 5), "counters": (1, 2), "number": 2, "low": 3, "high": 3,
     "thing": (0, 1), "place": 1, "one": (1, 3), "other": (), "most": 2},
    {"coefficients": (3, 5), "bounds": (5, 1), "counters": (5, 0), "number": 15, "low": -2, "high": 10,
     "thing": (5, 0), "place": 1, "one": (3, 5, 8), "other": (5, -3), "most": 6},
)
# Those with PLACES.
PLACES = (
    {"loops": (), "one": ((), 4), "other": ((), 4), "place": ((), 4), "counters": (), "others": (), "signs": "",
     "thing": ((), ())},
    {"loops": (("i", 4),), "one": ((2,), 0), "other": ((3,), 1), "place": ((2,), 0), "counters": (2,), "others": (1,),
     "signs": ">", "thing": ((2,), (1,))},
    {"loops": (("j", 5), ("i", 3)), "one": ((2, 0), 0), "other": ((0, 3), 1), "place": ((0, 3), 1), "counters": (2, 0),
     "others": (4, 1), "signs": "<<", "thing": ((2, 0), (4, 1))},
    {"loops": (("i", 1), ("j", 1)), "one": ((2, 0), 0), "other": ((0, 3), 1), "place": ((3, 1), 0), "counters": (1, 1),
     "others": (0, 1), "signs": "==", "thing": ((0, 0), (0, 0))},
    {"loops": (("a", 2), ("b", 1), ("c", 2)), "one": ((1, -1, 2), 3), "other": ((1, -1, 2), 3), "place": ((1, -1, 2), 3),
     "counters": (0, 0, 1), "others": (2, 0, 0), "signs": "<=>", "thing": ((0, 0, 1), (2, 0, 0))},
)
# Those with SPOTS.
SPOTS = (
    {"loops": (), "one": (), "other": (), "spot": (), "counters": (), "thing": (((), 7), ((), 7))},
    {"loops": (("i", 1),), "one": (((2,), 0), ((0,), 3)), "other": (((1,), 1), ((3,), 0)), "spot": (((2,), 0), ((0,), 3)),
     "counters": (1,), "thing": ((1,), (1,))},
    {"loops": (("i", 3), ("j", 3)), "one": (((1, 0), 0), ((0, 1), 0)), "other": (((0, 1), 0), ((1, 0), 1)),
     "spot": (((0, 1), 0), ((1, 0), 1)), "counters": (2, 3), "thing": (((10, 1), 0), ((1, 10), 1))},
    {"loops": (("i", 3), ("j", 2)), "one": (((1, 0), 0), ((1, 0), 0)), "other": (((0, 1), 0), ((0, 1), 1)),
     "spot": (((0, 1), 0),), "counters": (2, 0), "thing": (((0, 1), 0), ((1, 0), 1))},
    {"loops": (("i", 2), ("j", 1)), "one": (((1, 1), 0),) * 4, "other": (((1, 1), 1),) * 4, "spot": (((1, 1), 0),) * 4,
     "counters": (0, 1), "thing": ((1, 0), (0, 0))},
)
# Those with tests.
TESTS = (
    {"coefficients": (), "bounds": (), "number": 0, "test": "chain", "tests": ()},
    {"coefficients": (3, 5), "bounds": (5, 1), "number": 10, "test": "walk", "tests": ("heaps", "chain")},
    {"coefficients": (3, -5), "bounds": (4, 2), "number": 2, "test": "settled", "tests": ("settled", "heaps", "settled")},
    {"coefficients": (2, 4), "bounds": (1, 1), "number": 3, "test": "divisor", "tests": ("divisor", "chain")},
    {"coefficients": (1, 3), "bounds": (1, 5), "number": -1, "test": "sort", "tests": ("walk", "sort")},
)
# Those with texts.
TEXTS = (
    {"terms": (), "number": 0, "text": "-", "names": (), "coefficients": (), "loops": (), "counters": ()},
    {"terms": (("x", 2), ("y", -1)), "number": 7, "text": "2x-y+7", "names": ("y", "x"), "coefficients": (2, -1),
     "loops": (("i", 9), ("j", 4)), "counters": (0, 12, 3)},
    {"terms": (("loop", -1),), "number": -7, "text": "b-a=-4", "names": ("loop",), "coefficients": (-1,),
     "loops": (("z", 10 ** 40),), "counters": (5,)},
    {"text": "j:4, i:9, k:1, a:2"},
    {"text": "0 12 3"},
    {"text": "7"},
    {"text": ""},
)
REQUESTS = (
    {"thing": "bound i 20", "text": "loop i 1\nplace p 2i\nplace q 3\nplaces\ngroups\nundo\nalarms\nfrom i p q"},
    {"thing": ("bound i 20",), "text": "loops\nlook"},
    {"thing": "", "text": ""},
)
ASKED_OF = {"nests": PLACES, "signs": PLACES, "several": SPOTS, "order": TESTS, "texts": TEXTS, "desk": REQUESTS}

# Those whose answer is a list; in all others there is none, however deep.
LISTS = ("sums", "sums_between", "gaps", "holes", "parting_holes", "missed_for_ever", "lasting_holes",
         "passing_holes", "least_bounds_for", "cells_of", "signs_at_all", "all_signs", "missed_signs", "distances",
         "shared_cells", "numbers_told", "false_alarms", "replies")


def calls():
    """Each function with each of the arguments, by name, that it can be asked with."""
    for file, rows in INTERFACE.items():
        module = importlib.import_module("quickexact." + file)
        for name, words in rows.items():
            for asked in ASKED_OF.get(file, ASKED):
                if all(word in asked for word in words.split()):
                    yield getattr(module, name), {word: asked[word] for word in words.split()}


def with_lists(value):
    """The same value with a list in the place of each tuple, at any depth."""
    return [with_lists(one) for one in value] if isinstance(value, tuple) else value


def as_lists(told):
    """The same arguments with lists for tuples, but for thing."""
    return {word: value if word == "thing" else with_lists(value) for word, value in told.items()}


def outcome(function, *told, **named):
    """The text of what the function tells, which parts lists from tuples, and True from 1; or what it raises."""
    try:
        return repr(function(*told, **named))
    except (ValueError, LookupError) as error:
        return f"raises {error.__class__.__name__} {vars(error)!r}"


def answers():
    """Each call that raises nothing."""
    for function, told in calls():
        if not outcome(function, **told).startswith("raises"):
            yield function, told


def has_list(value):
    if isinstance(value, list):
        return True
    return isinstance(value, tuple) and any(has_list(one) for one in value)


class Interface(unittest.TestCase):
    def test_names_and_files(self):
        for file, rows in INTERFACE.items():
            module = importlib.import_module("quickexact." + file)
            for name, words in rows.items():
                with self.subTest(file=file, name=name):
                    function = getattr(module, name)
                    self.assertTrue(inspect.isfunction(function))
                    self.assertEqual(function.__module__, "quickexact." + file)
                    self.assertEqual(function.__name__, name)
                    self.assertEqual(list(inspect.signature(function).parameters), words.split())


class Calls(unittest.TestCase):
    def test_lists_names_and_again(self):
        for function, told in calls():
            with self.subTest(function=function.__name__, told=told):
                first = outcome(function, *told.values())
                self.assertEqual(outcome(function, **told), first)
                self.assertEqual(outcome(function, *as_lists(told).values()), first)
                self.assertEqual(outcome(function, **as_lists(told)), first)
                self.assertEqual(outcome(function, *told.values()), first)

    def test_tuples_are_returned_but_for_told_lists(self):
        for function, told in answers():
            with self.subTest(function=function.__name__, told=told):
                answer = function(**as_lists(told))
                if function.__name__ in LISTS:
                    self.assertIsInstance(answer, list)
                    self.assertFalse(has_list(tuple(answer)))
                else:
                    self.assertFalse(has_list(answer))

    def test_arguments_stay(self):
        for function, told in calls():
            with self.subTest(function=function.__name__, told=told):
                given = as_lists(told)
                before = copy.deepcopy(given)
                outcome(function, **given)
                self.assertEqual(repr(given), repr(before))

    def test_returned_lists_are_new(self):
        for function, told in answers():
            if function.__name__ in LISTS:
                first = function(**told)
                expected = list(first)
                first.append("more")
                self.assertEqual(function(**told), expected)
                self.assertIsNot(function(**told), function(**told))

    def test_each_function_answers_here(self):
        found = {function.__name__ for function, _ in answers()}
        self.assertEqual(found, {name for rows in INTERFACE.values() for name in rows})

    def test_lists_that_are_passed_do_not_come_back(self):
        bounds = [1, 2]
        from quickexact.sums import made_plain
        told = made_plain([4, -6], bounds, 2)
        bounds[0] = 9
        self.assertEqual(told, ((2, 3), (1, 2), 7))


if __name__ == "__main__":
    unittest.main()
