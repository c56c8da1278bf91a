"""Texts and the way back: point [14]."""

import itertools
import random
import re
import unittest

from quickexact import texts as own
from quickexact.errors import BadText

GREAT = 10 ** 40
NAME = r"[a-z]{1,8}"
NUMBER = r"(?:0|-?[1-9][0-9]*)"
TERM = rf"(?:[2-9]|[1-9][0-9]+)?{NAME}"
ROW = rf"-?{TERM}(?:[+-]{TERM})*"
READERS = ("terms_in", "equation_in", "loops_in", "counters_in")
# Signs that stand in texts, and some that never do.
LETTERS = "0129abz+-=:, xAZ_.*~\n"


def terms_by_form(row):
    """The terms of a row that has the right form."""
    found = []
    for sign, digits, name in re.findall(r"([+-]?)([0-9]*)([a-z]+)", row):
        number = int(digits) if digits else 1
        found.append((name, -number if sign == "-" else number))
    return tuple(found)


def read_terms(text):
    """The TERMS and the number, by the form of the text; None if there are none."""
    if re.fullmatch(NUMBER, text):
        return (), int(text)
    told = re.fullmatch(rf"({ROW})([+-][1-9][0-9]*)?", text)
    if told is None:
        return None
    terms = terms_by_form(told.group(1))
    names = [name for name, _ in terms]
    if any(one >= two for one, two in zip(names, names[1:])):
        return None
    return terms, int(told.group(2) or "0")


def read_equation(text):
    """The names, the coefficients and the number, by the form; None if there are none."""
    told = re.fullmatch(rf"(0|{ROW})=({NUMBER})", text)
    if told is None:
        return None
    terms = terms_by_form(told.group(1)) if told.group(1) != "0" else ()
    names = tuple(name for name, _ in terms)
    if len(set(names)) < len(names):
        return None
    return names, tuple(number for _, number in terms), int(told.group(2))


def read_loops(text):
    """The LOOPS, by the form; None if there are none."""
    if text == "-":
        return ()
    if not re.fullmatch(rf"{NAME}:[1-9][0-9]*(, {NAME}:[1-9][0-9]*)*", text):
        return None
    loops = tuple((name, int(bound)) for name, bound in re.findall(r"([a-z]+):([0-9]+)", text))
    return loops if len({name for name, _ in loops}) == len(loops) else None


def read_counters(text):
    """The counters, by the form; None if there are none."""
    if text == "-":
        return ()
    if not re.fullmatch(r"(0|[1-9][0-9]*)( (0|[1-9][0-9]*))*", text):
        return None
    return tuple(int(part) for part in text.split(" "))


BY_FORM = {"terms_in": read_terms, "equation_in": read_equation, "loops_in": read_loops, "counters_in": read_counters}


def written(name, told):
    """The text of what a reader told."""
    if name == "terms_in":
        return own.terms_text(*told)
    if name == "equation_in":
        return own.equation_text(*told)
    return own.loops_text(told) if name == "loops_in" else own.counters_text(told)


def drawn_name(source):
    return "".join(source.choice("abcxyz") for _ in range(source.choice((1, 1, 2, 8))))


def drawn_names(source, most):
    names = {drawn_name(source): True for _ in range(source.randint(0, most))}
    return tuple(names)


def drawn_number(source):
    return source.choice((-12, -10, -2, -1, 1, 2, 10, 21, 305, GREAT, -GREAT, source.randint(-99, 99) or 3))


def drawn_texts(many, seed):
    """Texts of each kind, with the name of their reader and what they tell."""
    source = random.Random(seed)
    for _ in range(many):
        names = drawn_names(source, 6)
        numbers = tuple(drawn_number(source) for _ in names)
        number = source.choice((0, 0, drawn_number(source)))
        terms = tuple(sorted(zip(names, numbers)))
        yield "terms_in", own.terms_text(terms, number), (terms, number)
        yield "equation_in", own.equation_text(names, numbers, number), (names, numbers, number)
        loops = tuple(zip(names, [abs(number) for number in numbers]))
        yield "loops_in", own.loops_text(loops), loops
        counters = tuple(source.choice((0, abs(number))) for number in numbers)
        yield "counters_in", own.counters_text(counters), counters


class There(unittest.TestCase):
    """From what is told to its text."""

    def test_terms(self):
        for terms, number, text in (
                ((), 0, "0"), ((), 5, "5"), ((), -GREAT, "-1" + 40 * "0"), ((("i", 1),), 0, "i"), ((("i", -1),), 0, "-i"),
                ((("i", 2),), 1, "2i+1"), ((("i", -2),), -1, "-2i-1"), ((("a", 1), ("b", 1)), 10, "a+b+10"),
                ((("a", -1), ("b", -1)), -10, "-a-b-10"), ((("a", 11), ("b", -11), ("c", 1)), 0, "11a-11b+c"),
                ((("abcdefgh", GREAT),), GREAT, f"{GREAT}abcdefgh+{GREAT}"), ((("aa", -10), ("ab", 20)), 0, "-10aa+20ab")):
            self.assertEqual(own.terms_text(terms, number), text)
            self.assertEqual(own.terms_in(text), (terms, number))

    def test_equations(self):
        for names, coefficients, number, text in (
                ((), (), 0, "0=0"), ((), (), -5, "0=-5"), (("x",), (1,), 0, "x=0"), (("x",), (-1,), 3, "-x=3"),
                (("z", "a", "m"), (2, -1, 12), -7, "2z-a+12m=-7"), (("b", "a"), (-1, 1), -4, "-b+a=-4"),
                (("abcdefgh", "b"), (GREAT, -GREAT), GREAT, f"{GREAT}abcdefgh-{GREAT}b={GREAT}")):
            self.assertEqual(own.equation_text(names, coefficients, number), text)
            self.assertEqual(own.equation_in(text), (names, coefficients, number))

    def test_loops_and_counters(self):
        for loops, text in (((), "-"), ((("i", 9),), "i:9"), ((("z", 1), ("abcdefgh", GREAT)), f"z:1, abcdefgh:{GREAT}"),
                            (tuple((name, 10) for name in "zyxwv"), "z:10, y:10, x:10, w:10, v:10")):
            self.assertEqual(own.loops_text(loops), text)
            self.assertEqual(own.loops_in(text), loops)
        for counters, text in (((), "-"), ((0,), "0"), ((7,), "7"), ((0, 0, 10, GREAT), f"0 0 10 {GREAT}")):
            self.assertEqual(own.counters_text(counters), text)
            self.assertEqual(own.counters_in(text), counters)

    def test_there_and_back(self):
        for name, text, told in drawn_texts(400, 601):
            self.assertEqual(BY_FORM[name](text), told)
            answer = getattr(own, name)(text)
            self.assertEqual(repr(answer), repr(told))
            self.assertEqual(written(name, answer), text)

    def test_lists_for_tuples(self):
        self.assertEqual(own.terms_text([["a", 1], ("b", -2)], 3), "a-2b+3")
        self.assertEqual(own.equation_text(["b", "a"], [1, -2], 3), "b-2a=3")
        self.assertEqual(own.loops_text([["a", 1], ("b", 2)]), "a:1, b:2")
        self.assertEqual(own.counters_text([1, 0]), "1 0")
        self.assertEqual((own.loops_text([]), own.counters_text([]), own.terms_text([], 0)), ("-", "-", "0"))


class Back(unittest.TestCase):
    """From a text to what it tells, if anything."""

    def check(self, name, text):
        told = BY_FORM[name](text)
        if told is None:
            with self.assertRaises(BadText, msg=(name, text)) as caught:
                getattr(own, name)(text)
            self.assertEqual(vars(caught.exception), {})
        else:
            answer = getattr(own, name)(text)
            self.assertEqual(repr(answer), repr(told), (name, text))
            self.assertEqual(written(name, answer), text)
        return told is not None

    def test_all_short_texts(self):
        right = {name: 0 for name in READERS}
        for name, letters, most in (("terms_in", "012ab+-", 5), ("equation_in", "012a+-=", 5), ("equation_in", "0ab+-=", 6),
                                    ("loops_in", "01a:, ", 6), ("loops_in", "1ab:, ", 6), ("counters_in", "012 -+", 5)):
            for many in range(most + 1):
                for row in itertools.product(letters, repeat=many):
                    right[name] += self.check(name, "".join(row))
        self.assertGreater(min(right.values()), 9)

    def test_one_sign_more_less_or_another(self):
        right = 0
        for name, text, _ in drawn_texts(25, 602):
            for at in range(len(text) + 1):
                for letter in LETTERS:
                    right += self.check(name, text[:at] + letter + text[at:])
                    right += self.check(name, text[:at] + letter + text[at + 1:])
                self.check(name, text[:at] + text[at + 1:])
        self.assertGreater(right, 1000)

    def test_each_text_by_each_reader(self):
        for _, text, _ in drawn_texts(100, 603):
            for name in READERS:
                self.check(name, text)

    def test_told_wrong_ones(self):
        wrong = {
            "terms_in": ("", " ", "+x", "x ", " x", "1x", "-1x", "0x", "-0x", "01x", "02x", "x+0", "x-0", "x+", "x-", "x++y",
                         "x+-y", "--x", "-+x", "5+x", "5+6", "x+5+6", "y+x", "y+2x", "x+x", "x-x", "X", "x1", "2x3", "-0",
                         "00", "+0", "abcdefghi", "a+abcdefghi", "2abcdefghi", "x=1", "x y", "x\n", "\nx", "0\n", "-", "x,y", "2 x",
                         "x +1", "x+ 1", "\u0663x", "x+\u0663", "\u0663", "\u00b2x", "\u00e4", "1_0", "x+1_0", "0x10", "1e3", "x*2"),
            "equation_in": ("", "=", "x", "x=", "=0", "0", "0=", "x=1=2", "x==1", "x=+1", "x=01", "x=-0", "x=00", "x+x=2", "x-x=0",
                            "a+b+a=1", "0+x=1", "x+0=1", "x+1=1", "1=1", "-0=1", "0=x", "x=y", "1x=1", "x =1", "x= 1", "x=1 ", "x=1\n",
                            "00=1", "2=2", "x=\u0663"),
            "loops_in": ("", " ", "--", "-, i:1", "i:0", "i:-1", "i:01", "i:", ":1", "i", "i:1,j:1", "i:1,  j:1", "i:1, ", ", i:1",
                         "i:1, i:2", "i:1 , j:1", "i: 1", "i :1", "i:1:2", "I:1", "abcdefghi:1", "i:+1", "i:1, j:0", "i:1\n", "i:1 ",
                         "i:\u0663", "1:i", "i:1, -", "i:a"),
            "counters_in": ("", " ", "--", "0 ", " 0", "0  1", "00", "01", "-1", "0 -1", "-0", "+1", "1,2", "1 a", "a", "- 1", "1 -",
                            "0\n", "\n", "0\t1", "\u0663", "1\u00a02", "1_0"),
        }
        for name, texts in wrong.items():
            for text in texts:
                self.assertIs(self.check(name, text), False, (name, text))

    def test_names_of_eight_and_nine_letters(self):
        for name, text in (("terms_in", "{}"), ("terms_in", "-2{}+1"), ("equation_in", "{}=0"), ("equation_in", "x-3{}=0"),
                           ("loops_in", "{}:1"), ("loops_in", "x:2, {}:1")):
            self.assertIs(self.check(name, text.format("abcdefgh")), True)
            self.assertIs(self.check(name, text.format("abcdefghi")), False)

    def test_long_texts(self):
        # 400 characters in a line, and far more.
        for many in (60, 400, 6000):
            digits = "9" * many
            number = 10 ** many - 1
            self.assertEqual(own.terms_in(digits), ((), number))
            self.assertEqual(own.terms_in(f"-{digits}x-{digits}"), ((("x", -number),), -number))
            self.assertEqual(own.equation_in(f"{digits}x=-{digits}"), (("x",), (number,), -number))
            self.assertEqual(own.loops_in(f"i:{digits}"), (("i", number),))
            self.assertEqual(own.counters_in(f"0 {digits}"), (0, number))
            for name in READERS:
                for text in ("0" * many, "-" * many, "x" * many, "+x" * many, " " * many, "1 " * many, "x:1, " * many, "=" * many,
                             "\n" * many, "x+" * many, digits + "\n", digits + "x\n" + digits):
                    with self.assertRaises(BadText):
                        getattr(own, name)(text)

    def test_many_terms_loops_and_counters(self):
        names = ["".join(row) for row in itertools.product("abc", repeat=4)][:79]
        terms = tuple((name, 1) for name in names)
        text = "+".join(names)
        self.assertLessEqual(len(text), 400)
        self.assertEqual(own.terms_in(text), (terms, 0))
        self.assertEqual(own.terms_text(terms, 0), text)
        self.assertEqual(own.equation_in(text + "=1"), (tuple(names), (1,) * 79, 1))
        loops = tuple((name, 1) for name in names[:50])
        self.assertEqual(own.loops_in(own.loops_text(loops)), loops)
        self.assertEqual(own.counters_in(" ".join("0" * 200)), (0,) * 200)
        with self.assertRaises(BadText):
            own.terms_in(text + "+" + names[-1])
        with self.assertRaises(BadText):
            own.loops_in(own.loops_text(loops) + ", aaaa:2")

    def test_texts_of_several_lines(self):
        for text in ("x\n", "x\ny", "0\n0", "x=1\nx=1", "i:1\n", "-\n", "\n-", "0 1\n", "\n".join(["9" * 400] * 60)):
            for name in READERS:
                self.assertIs(self.check(name, text), False)


if __name__ == "__main__":
    unittest.main()
