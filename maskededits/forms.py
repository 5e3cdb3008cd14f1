"""The forms of deeds: which tuples are deeds, and how many marks a deed makes."""

from maskededits.levels import is_word
from maskededits.names import is_integer, is_name

LONGEST_TEXT = 200
LONGEST_SCRIPT = 2000
MOST_TYPED = 60
FORMS = {
    "insert": ("name", "place", "plain", "text"),
    "pocket": ("name", "place", "word", "text"),
    "change": ("name", "text"),
    "move": ("name", "name", "place"),
    "copy": ("name", "name", "place"),
    "box": ("word",),
    "delete": ("name",),
    "typed": ("payload", "name", "place"),
    "undo": (),
    "redo": (),
    "script": ("script",),
}
ONE_MARK = ("insert", "pocket", "copy", "box")


def is_text(thing):
    """Tells whether a value is the text of a node."""
    if not isinstance(thing, str) or len(thing) > LONGEST_TEXT:
        return False
    return all([" " <= sign <= "~" for sign in thing])


def is_plain_kind(thing):
    """Tells whether a value is the kind of a plain node."""
    return is_word(thing) and thing != "pocket"


def is_script_text(thing):
    """Tells whether a value is a string that is not too long for a script."""
    return isinstance(thing, str) and len(thing) <= LONGEST_SCRIPT


def is_payload_row(thing):
    """Tells whether a value is a payload, whatever stands among its payloads."""
    if not isinstance(thing, tuple) or len(thing) != 3:
        return False
    return is_plain_kind(thing[0]) and is_text(thing[1]) and isinstance(thing[2], tuple)


def payload_size(payload):
    """Returns the number of nodes of a payload; None for what is none or has too many."""
    # A loop and not a recursion: what is no payload may be as deep and as large as it likes.
    many = 0
    waiting = [payload]
    while waiting:
        row = waiting.pop()
        many += 1
        if many > MOST_TYPED or not is_payload_row(row):
            return None
        waiting.extend(row[2])
    return many


def is_part(sort, thing):
    """Tells whether a value is what stands at a place of a deed."""
    if sort == "name":
        return is_name(thing)
    if sort == "place":
        return is_integer(thing)
    if sort == "plain":
        return is_plain_kind(thing)
    if sort == "word":
        return is_word(thing)
    if sort == "text":
        return is_text(thing)
    if sort == "payload":
        return payload_size(thing) is not None
    return is_script_text(thing)


def word_of(thing):
    """Returns the text with which a tuple begins; None for what is no tuple, or begins with no text."""
    # A value of another kind may claim to be equal to a word, so its kind is asked first.
    if isinstance(thing, tuple) and len(thing) > 0 and isinstance(thing[0], str):
        return thing[0]
    return None


def is_deed(thing):
    """Tells whether a value is a deed by its form."""
    word = word_of(thing)
    if word not in FORMS:
        return False
    sorts = FORMS[word]
    if len(thing) != len(sorts) + 1:
        return False
    return all([is_part(sort, part) for sort, part in zip(sorts, thing[1:])])


def marks_made(deed):
    """Returns how many marks a deed makes, one behind another, from the first one on."""
    if deed[0] in ONE_MARK:
        return 1
    if deed[0] == "typed":
        return payload_size(deed[1])
    return 0
