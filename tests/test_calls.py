"""How functions are called: point [2], and the names of the interface [16]."""

import copy
import importlib
import inspect
import unittest

# For each file: its functions, each with the names of its arguments.
INTERFACE = {
    "sums": {
        "is_coefficients": "thing",
        "is_bounds": "coefficients thing",
        "sum_of": "coefficients counters",
        "least_sum": "coefficients bounds",
        "greatest_sum": "coefficients bounds",
        "step": "coefficients",
        "is_let": "coefficients bounds number",
        "is_counters_for": "coefficients bounds number thing",
        "mirrored": "coefficients bounds number",
        "made_plain": "coefficients bounds number",
        "is_sum": "coefficients bounds number",
        "sums": "coefficients bounds",
        "sums_between": "coefficients bounds low high",
        "counters_for": "coefficients bounds number",
        "how_many_counters": "coefficients bounds number",
    },
    "exact": {
        "is_exact": "coefficients bounds",
        "chain": "coefficients bounds",
        "is_chain": "coefficients bounds thing",
        "first_hole": "coefficients bounds",
        "last_hole": "coefficients bounds",
        "whole_to": "coefficients bounds",
        "exact_from": "coefficients",
        "bound_needed": "coefficients bounds place",
        "idle_counters": "coefficients bounds",
    },
    "heaps": {
        "is_heap": "coefficients number",
        "gaps": "coefficients",
        "how_many_gaps": "coefficients",
        "greatest_gap": "coefficients",
        "least_in_class": "coefficients place number",
        "is_halved": "coefficients",
        "heap_counts": "coefficients number",
        "is_heap_counts": "coefficients number thing",
        "fewest_counts": "coefficients number",
        "needless": "coefficients",
        "bare_coefficients": "coefficients",
        "same_heaps": "one other",
    },
    "holes": {
        "holes": "coefficients bounds",
        "how_many_holes": "coefficients bounds",
        "is_hole": "coefficients bounds number",
        "parting_holes": "coefficients bounds",
        "is_settled": "coefficients bounds",
        "holes_from_ends": "coefficients bounds",
        "sure_width": "coefficients",
        "holes_at_last": "coefficients",
        "stays_settled": "coefficients bounds",
        "unsettled_above": "coefficients bounds",
        "is_unsettled_above": "coefficients bounds thing",
        "settled_from": "coefficients",
    },
    "unknown": {
        "why_never": "coefficients number",
        "comes_at_all": "coefficients number",
        "comes_from": "coefficients number",
        "shown_by": "coefficients number",
        "is_shown_by": "coefficients number thing",
        "comes_with": "coefficients bounds place number",
        "missed_for_ever": "coefficients low high",
        "lasting_holes": "coefficients bounds",
        "passing_holes": "coefficients bounds",
        "least_bounds_for": "coefficients number most",
    },
}

# Arguments with which each function is asked; thing stays a tuple.
ASKED = (
    {"coefficients": (), "bounds": (), "counters": (), "number": 0, "low": 0, "high": 0, "thing": (), "one": (),
     "other": (), "most": 1},
    {"coefficients": (1,), "bounds": (1,), "counters": (1,), "number": 1, "low": 0, "high": 1, "thing": (0,),
     "place": 0, "one": (1,), "other": (-1, 4), "most": 3},
    {"coefficients": (2, -3), "bounds": (2, 1), "counters": (2, 0), "number": 1, "low": -3, "high": 2,
     "thing": (2, 1), "place": 0, "one": (2, -3), "other": (2, 3, 5), "most": 4},
    {"coefficients": (4, -2, 2), "bounds": (3, 1, 2), "counters": (1, 0, 2), "number": 6, "low": 1, "high": 9,
     "thing": (1, 2, 0), "place": 2, "one": (4, -2, 2), "other": (3,), "most": 9},
    {"coefficients": (1, 3), "bounds": (1, 5), "counters": (1, 2), "number": 2, "low": 3, "high": 3,
     "thing": (0, 1), "place": 1, "one": (1, 3), "other": (), "most": 2},
    {"coefficients": (3, 5), "bounds": (5, 1), "counters": (5, 0), "number": 15, "low": -2, "high": 10,
     "thing": (5, 0), "place": 1, "one": (3, 5, 8), "other": (5, -3), "most": 6},
)
# Those whose answer is a list; in all others there is none, however deep.
LISTS = ("sums", "sums_between", "gaps", "holes", "parting_holes", "missed_for_ever", "lasting_holes",
         "passing_holes", "least_bounds_for")


def functions():
    for file, rows in INTERFACE.items():
        module = importlib.import_module("quickexact." + file)
        for name, words in rows.items():
            yield getattr(module, name), words.split()


def calls():
    """Each function with each of the arguments, by name, that it can be asked with."""
    for function, words in functions():
        for asked in ASKED:
            if all(word in asked for word in words):
                yield function, {word: asked[word] for word in words}


def as_lists(told):
    """The same arguments with lists for tuples, but for thing."""
    changed = {}
    for word, value in told.items():
        changed[word] = list(value) if isinstance(value, tuple) and word != "thing" else value
    return changed


def has_list(value):
    if isinstance(value, list):
        return True
    return isinstance(value, tuple) and any(has_list(one) for one in value)


class Interface(unittest.TestCase):
    def test_names_and_files(self):
        for file, rows in INTERFACE.items():
            module = importlib.import_module("quickexact." + file)
            for name, words in rows.items():
                with self.subTest(file=file, name=name):
                    function = getattr(module, name)
                    self.assertTrue(inspect.isfunction(function))
                    self.assertEqual(function.__module__, "quickexact." + file)
                    self.assertEqual(function.__name__, name)
                    self.assertEqual(list(inspect.signature(function).parameters), words.split())


class Calls(unittest.TestCase):
    def test_lists_names_and_again(self):
        for function, told in calls():
            with self.subTest(function=function.__name__, told=told):
                first = function(*told.values())
                # The text parts lists from tuples, and True from 1.
                for answer in (function(**told), function(*as_lists(told).values()), function(**as_lists(told)),
                               function(*told.values())):
                    self.assertEqual(repr(answer), repr(first))

    def test_tuples_are_returned_but_for_told_lists(self):
        for function, told in calls():
            with self.subTest(function=function.__name__, told=told):
                answer = function(**as_lists(told))
                if function.__name__ in LISTS:
                    self.assertIsInstance(answer, list)
                    self.assertFalse(has_list(tuple(answer)))
                else:
                    self.assertFalse(has_list(answer))

    def test_arguments_stay(self):
        for function, told in calls():
            with self.subTest(function=function.__name__, told=told):
                given = as_lists(told)
                before = copy.deepcopy(given)
                function(**given)
                self.assertEqual(repr(given), repr(before))

    def test_returned_lists_are_new(self):
        for function, told in calls():
            if function.__name__ in LISTS:
                first = function(**told)
                expected = list(first)
                first.append("more")
                self.assertEqual(function(**told), expected)
                self.assertIsNot(function(**told), function(**told))

    def test_lists_that_are_passed_do_not_come_back(self):
        bounds = [1, 2]
        from quickexact.sums import made_plain
        told = made_plain([4, -6], bounds, 2)
        bounds[0] = 9
        self.assertEqual(told, ((2, 3), (1, 2), 7))


if __name__ == "__main__":
    unittest.main()
