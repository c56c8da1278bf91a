"""Terms, equations, loops and counters as texts, and the way back: point [14]."""

from quickexact.errors import BadText
from quickexact.things import are_unlike, is_name

DIGITS = "0123456789"
# The text of what has nothing in it.
NOTHING = "-"


def number_in(text):
    """The number with just this text; None if there is none."""
    digits = text.removeprefix("-")
    if digits == "" or digits.strip(DIGITS) != "":
        return None
    # A needless zero ahead; 0 itself has no sign.
    if digits[0] == "0" and text != "0":
        return None
    number = 0
    # int would refuse a text of some thousand digits.
    for digit in digits:
        number = 10 * number + int(digit)
    return -number if text.startswith("-") else number


def number_from(text, least):
    """The number with just this text if it is at least least; None otherwise."""
    number = number_in(text)
    return None if number is None or number < least else number


def with_plus(text):
    """The text of a number or a term that stands behind another one."""
    return text if text.startswith("-") else "+" + text


def term_text(name, number):
    """The text of one term."""
    if number == 1:
        return name
    return "-" + name if number == -1 else f"{number}{name}"


def row_text(terms):
    """The terms, one behind another; the empty text if there are none."""
    texts = [term_text(name, number) for name, number in terms]
    return "".join(texts[:1] + [with_plus(text) for text in texts[1:]])


def term_in(text):
    """The pair (NAME, number) of the term with just this text; None if there is none."""
    body = text.removeprefix("-")
    name = body.lstrip(DIGITS)
    digits = body[:len(body) - len(name)]
    # 1 is not written, and 0 is not in a term.
    size = 1 if digits == "" else number_from(digits, 2)
    if size is None or not is_name(name):
        return None
    return name, -size if text.startswith("-") else size


def pieces_of(text):
    """The terms and numbers that stand one behind another, each with its own - ahead, as a list."""
    pieces = text.replace("-", "+-").split("+")
    # The - of the first one parts it from nothing.
    return pieces[1:] if text.startswith("-") else pieces


def terms_of(pieces):
    """The list of the terms with just these texts; raises BadText if one is none."""
    terms = [term_in(piece) for piece in pieces]
    if None in terms:
        raise BadText()
    return terms


def terms_text(terms, number):
    """The text of TERMS and a number."""
    row = row_text(terms)
    if row == "":
        return str(number)
    return row if number == 0 else row + with_plus(str(number))


def terms_in(text):
    """The pair (TERMS, number) with just this text; raises BadText if there is none."""
    pieces = pieces_of(text)
    number = number_in(pieces[-1])
    terms = terms_of(pieces if number is None else pieces[:-1])
    names = [name for name, _ in terms]
    if names != sorted(names) or not are_unlike(names):
        raise BadText()
    # Behind terms a 0 is not written.
    if number == 0 and terms != []:
        raise BadText()
    return tuple(terms), 0 if number is None else number


def equation_text(names, coefficients, number):
    """The text of an equation."""
    row = row_text(list(zip(names, coefficients)))
    return (row if row != "" else "0") + f"={number}"


def equation_in(text):
    """The triple (names, coefficients, number) with just this text; raises BadText if there is none."""
    row, _, last = text.partition("=")
    number = number_in(last)
    terms = [] if row == "0" else terms_of(pieces_of(row))
    names = tuple([name for name, _ in terms])
    if number is None or not are_unlike(names):
        raise BadText()
    return names, tuple([coefficient for _, coefficient in terms]), number


def loops_text(loops):
    """The text of LOOPS, of however many."""
    return ", ".join([f"{name}:{bound}" for name, bound in loops]) if len(loops) > 0 else NOTHING


def loop_in(text):
    """The pair (NAME, bound) with just this text; raises BadText if there is none."""
    name, _, digits = text.partition(":")
    bound = number_from(digits, 1)
    if bound is None or not is_name(name):
        raise BadText()
    return name, bound


def loops_in(text):
    """The LOOPS, of however many, with just this text; raises BadText if there are none."""
    if text == NOTHING:
        return ()
    loops = tuple([loop_in(part) for part in text.split(", ")])
    if not are_unlike([name for name, _ in loops]):
        raise BadText()
    return loops


def counters_text(counters):
    """The text of a tuple of numbers from 0."""
    return " ".join([str(counter) for counter in counters]) if len(counters) > 0 else NOTHING


def counters_in(text):
    """The tuple of numbers from 0 with just this text; raises BadText if there is none."""
    if text == NOTHING:
        return ()
    counters = tuple([number_from(part, 0) for part in text.split(" ")])
    if None in counters:
        raise BadText()
    return counters
