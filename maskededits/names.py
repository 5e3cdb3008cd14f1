"""Marks and names, and the texts in which they are written."""

from maskededits.errors import InvalidName
from maskededits.levels import is_word

DIGITS = "0123456789"
GREATEST_NUMBER = 10 ** 18
MOST_DIGITS = 19


def is_integer(thing):
    """Tells whether a value is an integer; True and False are none."""
    return isinstance(thing, int) and not isinstance(thing, bool)


def is_source(thing):
    """Tells whether a value is the source of a mark: the empty text or a word."""
    return isinstance(thing, str) and (thing == "" or is_word(thing))


def is_mark(thing):
    """Tells whether a value is a mark: a tuple of a level, a source and a number."""
    if not isinstance(thing, tuple) or len(thing) != 3:
        return False
    level, source, number = thing
    if not is_word(level) or not is_source(source):
        return False
    return is_integer(number) and 1 <= number <= GREATEST_NUMBER


def is_name(thing):
    """Tells whether a value is a name: a tuple of marks."""
    return isinstance(thing, tuple) and all([is_mark(mark) for mark in thing])


def mark_text(mark):
    """Returns the text that writes a mark."""
    level, source, number = mark
    if source == "":
        return f"{level}.{number}"
    return f"{level}.{source}.{number}"


def name_text(name):
    """Returns the text that writes a name."""
    if not is_name(name):
        raise InvalidName(name)
    if name == ():
        return "/"
    return "+".join([mark_text(mark) for mark in name])


def written_number(text):
    """Returns the number that a text writes without leading zeros, or None."""
    if not 1 <= len(text) <= MOST_DIGITS or text[0] == "0":
        return None
    if not all([sign in DIGITS for sign in text]):
        return None
    return int(text)


def written_mark(text):
    """Returns the mark that a text writes, or None."""
    parts = text.split(".")
    # An empty source is not written, so an empty part in the middle writes no mark.
    if len(parts) == 3 and parts[1] != "":
        mark = (parts[0], parts[1], written_number(parts[2]))
    elif len(parts) == 2:
        mark = (parts[0], "", written_number(parts[1]))
    else:
        return None
    if is_mark(mark):
        return mark
    return None


def parse_name(text):
    """Returns the name that a text writes."""
    if not isinstance(text, str):
        raise InvalidName(text)
    if text == "/":
        return ()
    marks = [written_mark(part) for part in text.split("+")]
    if None in marks:
        raise InvalidName(text)
    return tuple(marks)
