"""A desk: points [13], [14] and [15]."""

import itertools
import random
import re
import unittest

from quickexact import desk as own
from quickexact.errors import BadLine, Unfit
from quickexact.loopbook import Loopbook
from quickexact.texts import terms_text
from tests import helpers
from tests.test_texts import LETTERS, read_terms

GREAT = 10 ** 40
NAME = "[a-z]{1,8}"
BOUND = "(?:[1-9]|1[0-9]|20)"
WORDS = ("loop", "bound", "place", "drop", "undo", "loops", "places", "deeds", "touch", "test", "pairs", "alarms", "groups",
         "apart", "from", "till")
FORMS = (
    f"loop {NAME} {BOUND}", f"bound {NAME} {BOUND}", f"drop loop {NAME}", f"drop place {NAME}", "undo", "loops", "places",
    "deeds", f"touch {NAME} {NAME}", f"test {NAME} {NAME}", "pairs", "alarms", "groups", "apart", f"till {NAME}",
)
RIGHT = (
    "loop i 1", "loop abcdefgh 20", "bound j 9", "place p 2i-j+5", "place loop 0", "place p -20i+20j", f"place q {GREAT}",
    f"place q -20x-{GREAT}", "drop loop i", "drop place p", "drop place place", "undo", "loops", "places", "deeds", "touch p q",
    "touch p p", "test q p", "test test test", "pairs", "alarms", "groups", "apart", "from i p q", "from from loop place",
    "till i", "till till",
)
LOOPS = ("i", "j", "p", "k")
PLACES = ("p", "q", "i", "r", "s", "t", "u", "abcdefgh")


def is_request_by_form(text):
    """Whether it is a request, by the forms that the document lists."""
    if any(re.fullmatch(form, text) for form in FORMS):
        return True
    told = re.fullmatch(f"from {NAME} ({NAME}) ({NAME})", text)
    if told:
        return told.group(1) != told.group(2)
    told = re.fullmatch(rf"place {NAME} ([^ ]+)", text)
    found = read_terms(told.group(1)) if told else None
    return found is not None and all(-20 <= own_one <= 20 for _, own_one in found[0]) and -GREAT <= found[1] <= GREAT


def sets_text(sets):
    return ", ".join("+".join(one) for one in sets) or "-"


def reply_by_book(book, line):
    """The reply to a request, from a Loopbook that does the same deed."""
    words = line.split(" ")
    first, rest = words[0], words[1:]
    try:
        if first == "loop":
            book.add_loop(rest[0], int(rest[1]))
        elif first == "bound":
            book.set_bound(rest[0], int(rest[1]))
        elif first == "place":
            book.add_place(rest[0], *read_terms(rest[1]))
        elif first == "drop":
            {"loop": book.drop_loop, "place": book.drop_place}[rest[0]](rest[1])
        elif first == "undo":
            book.undo()
        else:
            return answer_by_book(book, first, rest)
        return "done"
    except (ValueError, LookupError) as error:
        return "refused " + error.__class__.__name__


def answer_by_book(book, first, rest):
    if first == "loops":
        return ", ".join(f"{name}:{bound}" for name, bound in book.loops()) or "-"
    if first == "places":
        return ", ".join(f"{name} {terms_text(terms, number)}" for name, terms, number in book.places()) or "-"
    if first == "deeds":
        return str(len(book))
    if first in ("touch", "test"):
        return "yes" if getattr(book, first)(*rest) else "no"
    if first in ("pairs", "alarms", "groups"):
        return sets_text({"pairs": book.touching_pairs, "alarms": book.alarms, "groups": book.groups}[first]())
    if first == "apart":
        return "+".join(book.most_apart()) or "-"
    told = book.touch_from(*rest) if first == "from" else book.bound_till(*rest)
    return "-" if told is None else str(told)


def replies_by_book(text):
    book = Loopbook()
    return [reply_by_book(book, line) for line in text.split("\n")] if text else []


def drawn_request(source, most_bound, most):
    """A request from a told source; deeds are more than questions."""
    word = source.choice(WORDS + ("loop", "place", "place", "place", "bound", "undo", "place", "drop"))
    loop, place, other = source.choice(LOOPS), source.choice(PLACES), source.choice(PLACES)
    if word in ("loop", "bound"):
        return f"{word} {loop} {source.randint(1, most_bound)}"
    if word == "place":
        names = sorted(name for name in LOOPS if source.random() < 0.35)
        terms = [(name, source.choice((-1, 1)) * source.randint(1, most)) for name in names]
        return f"place {place} {terms_text(terms, source.randint(-9, 9))}"
    if word == "drop":
        return source.choice((f"drop loop {loop}", f"drop place {place}"))
    if word in ("touch", "test"):
        return f"{word} {place} {other}"
    if word == "from":
        return f"from {loop} {place} {other}" if place != other else f"till {loop}"
    return f"till {loop}" if word == "till" else word


class Requests(unittest.TestCase):
    def check(self, text):
        told = is_request_by_form(text)
        self.assertIs(own.is_request(text), told, text)
        if not told and text != "" and "\n" not in text:
            with self.assertRaises(BadLine) as caught:
                own.replies(text)
            self.assertEqual(vars(caught.exception), {"number": 0})
        return told

    def test_told_ones(self):
        for text in RIGHT:
            self.assertIs(own.is_request(text), True, text)
            self.assertIs(is_request_by_form(text), True, text)
            for wrong in (text + "\n", "\n" + text, text + " ", " " + text, text.replace(" ", "  ", 1) + "  ", text.upper(), text + " x y z",
                          text + "\t", text[1:], text + "\n" + text, text.replace(" ", "\t") + "\t", text.title(), "%" + text):
                self.assertIs(self.check(wrong), False, wrong)

    def test_one_sign_more_less_or_another(self):
        right = 0
        for text in RIGHT:
            for at in range(len(text) + 1):
                for letter in LETTERS + "dlnops":
                    changed = text[:at] + letter + text[at:]
                    right += is_request_by_form(changed)
                    self.assertIs(own.is_request(changed), is_request_by_form(changed), changed)
                    changed = text[:at] + letter + text[at + 1:]
                    self.assertIs(own.is_request(changed), is_request_by_form(changed), changed)
                changed = text[:at] + text[at + 1:]
                self.assertIs(own.is_request(changed), is_request_by_form(changed), changed)
        self.assertGreater(right, 300)

    def test_words_in_all_places(self):
        words = ("loop", "place", "drop", "from", "undo", "NAME", "BOUND", "TEXT", "i", "1", "20", "-i", "")
        for many in range(1, 5):
            for row in itertools.product(words, repeat=many):
                text = " ".join(row)
                self.assertIs(own.is_request(text), is_request_by_form(text), text)

    def test_ends_of_numbers(self):
        for number in (-21, -20, -1, 0, 1, 2, 19, 20, 21, 100, GREAT):
            self.assertIs(self.check(f"loop i {number}"), 1 <= number <= 20)
            self.assertIs(self.check(f"bound i {number}"), 1 <= number <= 20)
            if number not in (-1, 0, 1):
                self.assertIs(self.check(f"place p {number}i"), -20 <= number <= 20)
                self.assertIs(self.check(f"place p i{number:+}j"), -20 <= number <= 20)
        for number in (GREAT, GREAT + 1, 10 * GREAT):
            for text in (f"{number}", f"-{number}", f"i+{number}", f"i-{number}"):
                self.assertIs(self.check(f"place p {text}"), number == GREAT)
        for text in ("01", "1 ", "+1", "1.", "1_0", "\u0661", "0x1", "1e1", "x", "", "-1", "20 "):
            self.assertIs(self.check(f"loop i {text}"), False)
        for name, told in (("abcdefgh", True), ("abcdefghi", False), ("", False), ("I", False), ("i1", False)):
            for text in ("loop {} 1", "bound {} 1", "place {} 0", "place p {}", "drop loop {}", "drop place {}", "touch {} q",
                         "touch p {}", "test {} q", "test p {}", "from {} p q", "from i {} q", "from i p {}", "till {}"):
                self.assertIs(self.check(text.format(name)), told, text.format(name))

    def test_one_and_other_unlike(self):
        self.assertIs(own.is_request("from i p p"), False)
        self.assertIs(own.is_request("from i i p"), True)
        self.assertIs(own.is_request("from i p i"), True)
        self.assertIs(own.is_request("touch p p"), True)
        self.assertIs(own.is_request("test p p"), True)

    def test_things_of_all_kinds(self):
        for thing in helpers.odd_nest_things() + [b"undo", ("undo",), ["undo"], Unfit(), Loopbook(), undo_like(), None, 0, True]:
            self.assertIs(own.is_request(thing), False, thing)
        for text in RIGHT:
            for thing in ((text,), [text], tuple(text.split(" ")), text.split(" "), (text, text), text.encode()):
                self.assertIs(own.is_request(thing), False)

    def test_long_ones(self):
        for digits in ("9" * 300, "9" * 5000, "1" + "0" * 40, "1" + "0" * 41):
            for text in (f"loop i {digits}", f"bound i -{digits}", f"place p {digits}", f"place p {digits}i", f"place p i-{digits}"):
                told = digits == "1" + "0" * 40 and text in (f"place p {digits}", f"place p i-{digits}")
                self.assertIs(own.is_request(text), told, text[:60])
        many = "+".join("".join(row) for row in itertools.product("abcdef", repeat=4))
        self.assertIs(own.is_request("place p " + many), True)
        self.assertIs(own.is_request("place p b+" + many), False)


def undo_like():
    """Nested as deep as a thing may be."""
    nested = ("undo",)
    for _ in range(11):
        nested = [nested]
    return nested


class Replies(unittest.TestCase):
    def test_the_empty_text(self):
        first = own.replies("")
        self.assertEqual(first, [])
        first.append("more")
        self.assertEqual(own.replies(""), [])

    def test_beside_a_book(self):
        seen = {}
        for seed in range(70):
            source = random.Random(900 + seed)
            # Some begin with as many places as there may be.
            lines = [f"place {name} {source.randint(1, 9)}" for name in PLACES[:6] if seed % 3 == 0]
            lines = (lines + [drawn_request(source, 5, 6) for _ in range(60)])[:60]
            text = "\n".join(lines)
            told = own.replies(text)
            self.assertEqual(told, replies_by_book(text), text)
            self.assertEqual(own.replies(text), told)
            for line, reply in zip(lines, told):
                seen[line.split(" ")[0], reply if reply.startswith("refused") else ""] = True
        for word in WORDS:
            self.assertIn((word, ""), seen)
        for row in (("loop", "refused Known"), ("loop", "refused Unfit"), ("bound", "refused NoLoop"), ("drop", "refused NoLoop"),
                    ("drop", "refused Used"), ("drop", "refused NoPlace"), ("place", "refused Known"), ("place", "refused NoLoop"),
                    ("place", "refused Unfit"), ("touch", "refused NoPlace"), ("test", "refused NoPlace"),
                    ("from", "refused NoLoop"), ("from", "refused NoPlace"), ("till", "refused NoLoop")):
            self.assertIn(row, seen)

    def test_each_word_by_itself(self):
        told = {"loop i 1": "done", "bound i 1": "refused NoLoop", "place p 7": "done", "place p 2i": "refused NoLoop",
                "drop loop i": "refused NoLoop", "drop place p": "refused NoPlace", "undo": "refused NothingDone", "loops": "-",
                "places": "-", "deeds": "0", "touch p q": "refused NoPlace", "test p p": "refused NoPlace", "pairs": "-",
                "alarms": "-", "groups": "-", "apart": "-", "from i p q": "refused NoLoop", "till i": "refused NoLoop"}
        for text, reply in told.items():
            self.assertEqual(own.replies(text), [reply])

    def test_texts_of_answers(self):
        lines = ("loop j 4", "loop i 9", "loops", "place q 20i-20j-7", "place p -i", f"place a {GREAT}", "places", "bound i 20",
                 "loops", "deeds", "undo", "deeds", "loops", "touch p p", "touch q q", "test p q", "drop place a", "places", "apart",
                 "groups", "pairs", "alarms", "from i p q", "from j p q", "till i", "till j")
        told = own.replies("\n".join(lines))
        self.assertEqual(told[:13], ["done", "done", "j:4, i:9", "done", "done", "done",
                                     f"a {GREAT}, p -i, q 20i-20j-7", "done", "j:4, i:20", "6", "done", "5", "j:4, i:9"])
        self.assertEqual(told[17], "p -i, q 20i-20j-7")
        self.assertEqual(told, replies_by_book("\n".join(lines)))

    def test_groups_pairs_and_apart(self):
        lines = ("place d 1", "place c 2", "place b 1", "place a 2", "place e 3", "pairs", "groups", "apart", "alarms",
                 "drop place a", "drop place b", "pairs", "groups", "apart")
        self.assertEqual(own.replies("\n".join(lines))[5:9], ["a+c, b+d", "a+c, b+d, e", "a+b+e", "-"])
        self.assertEqual(own.replies("\n".join(lines))[11:], ["-", "c, d, e", "c+d+e"])

    def test_what_is_refused_changes_nothing(self):
        ahead = ["loop i 2", "loop j 2", "loop k 2"] + [f"place {name} i+{at + 1}" for at, name in enumerate("abcdef")]
        after = ["loops", "places", "deeds", "pairs", "apart"]
        plain = own.replies("\n".join(ahead + after))[-5:]
        for line, reply in (("loop i 3", "refused Known"), ("loop m 3", "refused Unfit"), ("bound m 3", "refused NoLoop"),
                            ("drop loop m", "refused NoLoop"), ("drop loop i", "refused Used"), ("place a 3", "refused Known"),
                            ("place a m", "refused Known"), ("place g m", "refused NoLoop"), ("place g k", "refused Unfit"),
                            ("drop place g", "refused NoPlace"), ("touch a g", "refused NoPlace"), ("from m a g", "refused NoLoop"),
                            ("from i a g", "refused NoPlace"), ("till m", "refused NoLoop")):
            told = own.replies("\n".join(ahead + [line] + after))
            self.assertEqual(told[9], reply)
            self.assertEqual(told[-5:], plain)

    def test_each_text_begins_with_a_new_book(self):
        self.assertEqual(own.replies("loop i 1\ndeeds"), ["done", "1"])
        self.assertEqual(own.replies("deeds\nloops"), ["0", "-"])

    def test_undo_to_the_end(self):
        lines = ["loop i 1", "place p i", "bound i 2", "drop place p", "drop loop i"] + ["undo"] * 6 + ["loops", "places", "deeds"]
        self.assertEqual(own.replies("\n".join(lines)), ["done"] * 10 + ["refused NothingDone", "-", "-", "0"])

    def test_as_long_as_can_be(self):
        lines = ["loop i 20", "loop j 20", "loop k 20"]
        lines += [f"place {name} {number}i-{number - 1}j+{number - 3}k-{number * 31}" for name, number in zip("abcdef", range(20, 8, -2))]
        lines += ["pairs", "alarms", "groups", "apart", "till i", "till j", "till k", "from i a b", "from j c d"]
        lines += ["groups"] * 6 + ["till i"] * 6
        lines = (lines + ["touch a f", "test a f", "touch a a", "places", "loops", "deeds", "bound i 19", "undo"] * 9)[:60]
        text = "\n".join(lines)
        told = helpers.quickly(self, own.replies, text)
        self.assertEqual(len(told), 60)
        self.assertEqual(told, replies_by_book(text))
        lines = ["undo"] * 60
        self.assertEqual(own.replies("\n".join(lines)), ["refused NothingDone"] * 60)


class BadLines(unittest.TestCase):
    def check(self, text, number):
        with self.assertRaises(BadLine) as caught:
            own.replies(text)
        self.assertEqual(vars(caught.exception), {"number": number})

    def test_the_first_one_is_told(self):
        for text, number in (("look", 0), (" ", 0), ("\n", 0), ("loops\n", 1), ("\nloops", 0), ("loops\n\nloops", 1),
                             ("loops\nlook\nlook", 1), ("undo\nundo\nundo\nundo ", 3), ("loops\r\nloops", 0), ("loops\rloops", 0),
                             ("loops\n\n", 1), ("loop i 1\nloop i 21\nloop i 0", 1), ("from i p p", 0), ("loops\u2028loops", 0),
                             ("loops\x0bloops", 0), ("loops\x85loops", 0), ("place p 1x", 0), ("\n".join(["undo"] * 59 + ["undo i"]), 59)):
            self.check(text, number)

    def test_ahead_of_what_is_refused(self):
        self.check("undo\nloop i 1\nloop i 1\ntill z\nlook", 4)

    def test_each_line_in_turn(self):
        for at in range(len(RIGHT)):
            lines = list(RIGHT)
            lines[at] = lines[at] + "!"
            self.check("\n".join(lines), at)
            lines[-1] = "!"
            self.check("\n".join(lines), at)


if __name__ == "__main__":
    unittest.main()
