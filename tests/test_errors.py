"""The error classes: point [2], its last paragraph, and point [16]."""

import unittest

from quickexact import errors

CLASSES = {
    "Known": (ValueError, ("name",)),
    "Used": (ValueError, ("name",)),
    "Unfit": (ValueError, ()),
    "BadText": (ValueError, ()),
    "BadLine": (ValueError, ("number",)),
    "NoCounter": (LookupError, ("place",)),
    "NoLoop": (LookupError, ("name",)),
    "NoPlace": (LookupError, ("name",)),
    "NothingDone": (LookupError, ()),
}


class Errors(unittest.TestCase):
    def test_each_has_one_base_and_it_is_built_in(self):
        for name, (base, _) in CLASSES.items():
            with self.subTest(name=name):
                self.assertEqual(getattr(errors, name).__bases__, (base,))

    def test_each_is_defined_in_this_file_and_there_are_no_others(self):
        found = {}
        for name, value in vars(errors).items():
            if isinstance(value, type):
                found[name] = value.__module__
        self.assertEqual(found, {name: "quickexact.errors" for name in CLASSES})

    def test_values_are_kept_by_position_and_by_name(self):
        for name, (_, words) in CLASSES.items():
            made = getattr(errors, name)
            for values in (("i",) * len(words), (7,) * len(words)):
                with self.subTest(name=name, values=values):
                    told = dict(zip(words, values))
                    self.assertEqual(vars(made(*values)), told)
                    self.assertEqual(vars(made(**told)), told)

    def test_values_are_needed(self):
        for name, (_, words) in CLASSES.items():
            if words:
                with self.subTest(name=name), self.assertRaises(TypeError):
                    getattr(errors, name)()

    def test_lists_are_kept_as_tuples(self):
        for name, (_, words) in CLASSES.items():
            for word in words:
                with self.subTest(name=name):
                    given = ["i", ["j", (3, [4])], []]
                    kept = getattr(getattr(errors, name)(given), word)
                    self.assertEqual(kept, ("i", ("j", (3, (4,))), ()))
                    self.assertEqual(given, ["i", ["j", (3, [4])], []])

    def test_each_is_raised_and_caught_by_its_base(self):
        for name, (base, words) in CLASSES.items():
            made = getattr(errors, name)
            with self.subTest(name=name), self.assertRaises(base) as caught:
                raise made(*["i"] * len(words))
            self.assertIs(caught.exception.__class__, made)


if __name__ == "__main__":
    unittest.main()
