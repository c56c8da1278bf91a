"""Requests to a Loopbook, one in each line, and their replies: point [15]."""

from quickexact.errors import BadLine, BadText, Known, NoLoop, NoPlace, NothingDone, Unfit, Used
from quickexact.loopbook import MOST_BOUND, Loopbook
from quickexact.texts import NOTHING, loops_text, number_in, terms_in, terms_text
from quickexact.things import is_name

MOST_IN_TERMS = 20
MOST_ALONE = 10 ** 40

# The words of each request; NAME, BOUND and TEXT stand for any such ones.
FORMS = (
    ("loop", "NAME", "BOUND"),
    ("bound", "NAME", "BOUND"),
    ("place", "NAME", "TEXT"),
    ("drop", "loop", "NAME"),
    ("drop", "place", "NAME"),
    ("undo",),
    ("loops",),
    ("places",),
    ("deeds",),
    ("touch", "NAME", "NAME"),
    ("test", "NAME", "NAME"),
    ("pairs",),
    ("alarms",),
    ("groups",),
    ("apart",),
    ("from", "NAME", "NAME", "NAME"),
    ("till", "NAME"),
)


def is_bound_text(text):
    """Whether it is the text of a bound."""
    number = number_in(text)
    return number is not None and 1 <= number <= MOST_BOUND


def is_terms_text(text):
    """Whether it is the text of terms and a number that a place may have."""
    try:
        terms, number = terms_in(text)
    except BadText:
        return False
    if not -MOST_ALONE <= number <= MOST_ALONE:
        return False
    return all([-MOST_IN_TERMS <= own <= MOST_IN_TERMS for _, own in terms])


def is_word(text, kind):
    """Whether the text may stand where a request has a word of this kind."""
    if kind == "NAME":
        return is_name(text)
    if kind == "BOUND":
        return is_bound_text(text)
    if kind == "TEXT":
        return is_terms_text(text)
    return text == kind


def has_form(words, form):
    """Whether the words are those of a request of this form."""
    return len(words) == len(form) and all([is_word(word, kind) for word, kind in zip(words, form)])


def is_request(thing):
    """Whether thing is a string that is a request."""
    if not isinstance(thing, str):
        return False
    words = thing.split(" ")
    if not any([has_form(words, form) for form in FORMS]):
        return False
    return words[0] != "from" or words[2] != words[3]


def listed(parts):
    """The parts with ", " between two; - if there are none."""
    return ", ".join(parts) if len(parts) > 0 else NOTHING


def names_text(names):
    """The names with + between two."""
    return "+".join(names)


def sets_text(sets):
    """The names of each set, the sets one behind another."""
    return listed([names_text(names) for names in sets])


def yes_or_no(is_so):
    """The reply to what can be so or not."""
    return "yes" if is_so else "no"


def number_or_none(number):
    """The text of a number; - for None."""
    return NOTHING if number is None else str(number)


def do_loop(book, words):
    """Do the deed loop."""
    book.add_loop(words[1], number_in(words[2]))


def do_bound(book, words):
    """Do the deed bound."""
    book.set_bound(words[1], number_in(words[2]))


def do_place(book, words):
    """Do the deed place."""
    terms, number = terms_in(words[2])
    book.add_place(words[1], terms, number)


def do_drop(book, words):
    """Do the deed drop loop or drop place."""
    if words[1] == "loop":
        book.drop_loop(words[2])
    else:
        book.drop_place(words[2])


def do_undo(book, words):
    """Take a deed back."""
    book.undo()


def tell_loops(book, words):
    """Reply to loops."""
    return loops_text(book.loops())


def tell_places(book, words):
    """Reply to places."""
    return listed([f"{name} {terms_text(terms, number)}" for name, terms, number in book.places()])


def tell_deeds(book, words):
    """Reply to deeds."""
    return str(len(book))


def tell_touch(book, words):
    """Reply to touch."""
    return yes_or_no(book.touch(words[1], words[2]))


def tell_test(book, words):
    """Reply to test."""
    return yes_or_no(book.test(words[1], words[2]))


def tell_pairs(book, words):
    """Reply to pairs."""
    return sets_text(book.touching_pairs())


def tell_alarms(book, words):
    """Reply to alarms."""
    return sets_text(book.alarms())


def tell_groups(book, words):
    """Reply to groups."""
    return sets_text(book.groups())


def tell_apart(book, words):
    """Reply to apart."""
    names = book.most_apart()
    return names_text(names) if len(names) > 0 else NOTHING


def tell_from(book, words):
    """Reply to from."""
    return number_or_none(book.touch_from(words[1], words[2], words[3]))


def tell_till(book, words):
    """Reply to till."""
    return number_or_none(book.bound_till(words[1]))


DEEDS = {"loop": do_loop, "bound": do_bound, "place": do_place, "drop": do_drop, "undo": do_undo}
ANSWERS = {
    "loops": tell_loops,
    "places": tell_places,
    "deeds": tell_deeds,
    "touch": tell_touch,
    "test": tell_test,
    "pairs": tell_pairs,
    "alarms": tell_alarms,
    "groups": tell_groups,
    "apart": tell_apart,
    "from": tell_from,
    "till": tell_till,
}


def reply_unless_refused(book, request):
    """The reply to a request that is not refused; raises what refuses it."""
    words = request.split(" ")
    if words[0] in DEEDS:
        deed = DEEDS[words[0]]
        deed(book, words)
        return "done"
    answer = ANSWERS[words[0]]
    return answer(book, words)


def reply_to(book, request):
    """The reply to a request."""
    try:
        return reply_unless_refused(book, request)
    except Known:
        return "refused Known"
    except Used:
        return "refused Used"
    except Unfit:
        return "refused Unfit"
    except NoLoop:
        return "refused NoLoop"
    except NoPlace:
        return "refused NoPlace"
    except NothingDone:
        return "refused NothingDone"


def replies(text):
    """The list of the replies to the lines of the text; raises BadLine for the first one that is no request."""
    if text == "":
        return []
    lines = text.split("\n")
    for number, line in enumerate(lines):
        if not is_request(line):
            raise BadLine(number)
    book = Loopbook()
    return [reply_to(book, line) for line in lines]
