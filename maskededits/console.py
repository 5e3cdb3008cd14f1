"""A console: lines of words that work at a server."""

from maskededits.checker import first_wrong
from maskededits.errors import InvalidLevels, InvalidLine, InvalidName, NoServer
from maskededits.levels import Levels, is_word
from maskededits.names import DIGITS, name_text, parse_name
from maskededits.server import Server
from maskededits.texts import format_view

# For each first word but begin what stands behind it; a text takes all that is left of the line.
FORMS = {
    "as": ("word", "word"),
    "insert": ("name", "place", "word", "text"),
    "pocket": ("name", "place", "word", "text"),
    "change": ("name", "text"),
    "move": ("name", "name", "place"),
    "copy": ("name", "name", "place"),
    "delete": ("name",),
    "undo": (),
    "redo": (),
    "script": ("text",),
    "show": (),
    "clock": (),
    "room": (),
    "offer": ("name", "word", "name", "place"),
    "approve": ("place",),
    "offers": (),
    "wrong": (),
}
MOST_DIGITS = 9
OK = "ok"
NOTHING = "-"


def is_place(word):
    """Tells whether a word writes a place, without leading zeros."""
    if not 1 <= len(word) <= MOST_DIGITS or not all([sign in DIGITS for sign in word]):
        return False
    return word == "0" or word[0] != "0"


def part_of(sort, word, line):
    """Returns the part of a call that a word of a line writes."""
    if sort == "text" or (sort == "word" and is_word(word)):
        return word
    if sort == "place" and is_place(word):
        return int(word)
    if sort != "name":
        raise InvalidLine(line)
    try:
        return parse_name(word)
    except InvalidName:
        raise InvalidLine(line) from None


def parts_of(line):
    """Returns the parts of a call that a line writes; the first one is its word."""
    word = line.split(" ")[0]
    if word not in FORMS:
        raise InvalidLine(line)
    sorts = FORMS[word]
    words = line.split(" ", len(sorts)) if "text" in sorts else line.split(" ")
    if len(words) != len(sorts) + 1:
        raise InvalidLine(line)
    return [word, *[part_of(sort, each, line) for sort, each in zip(sorts, words[1:])]]


def new_server(line):
    """Returns the server that a line begins."""
    words = line.split(" ")[1:]
    if "/" not in words:
        raise InvalidLine(line)
    at = words.index("/")
    people = words[at + 1:]
    if not people or not all([is_word(user) for user in people]):
        raise InvalidLine(line)
    names = [word for word in words[:at] if "<" not in word]
    pairs = [tuple(word.split("<")) for word in words[:at] if "<" in word]
    try:
        levels = Levels(names, pairs)
    except InvalidLevels:
        raise InvalidLine(line) from None
    return Server(levels, {user: levels.names() for user in people})


def told_text(value):
    """Returns the text of what a deed told."""
    if value is None:
        return OK
    if isinstance(value, tuple):
        return name_text(value)
    return str(value)


class Console:
    """At most one server, and at most one session, which works."""

    def __init__(self):
        self.server = None
        self.worker = None

    def run(self, line):
        """Executes a line and returns a text."""
        if not isinstance(line, str) or "\n" in line:
            raise InvalidLine(line)
        if line.split(" ")[0] == "begin":
            self.server = new_server(line)
            self.worker = None
            return OK
        word, *parts = parts_of(line)
        if self.server is None or (word != "as" and self.worker is None):
            raise NoServer()
        if word == "as":
            self.worker = self.server.session(*parts)
            return OK
        if word in ("show", "offer", "approve", "offers", "wrong"):
            return self.other_text(word, parts)
        told = self.worker.do(word, *parts)
        return str(len(told)) if word == "script" else told_text(told)

    def other_text(self, word, parts):
        """Returns the text for a line that is no call of the engine."""
        if word == "show":
            return format_view(self.worker.view()) or NOTHING
        if word == "offer":
            return str(self.worker.offer(*parts))
        if word == "approve":
            return name_text(self.worker.approve(*parts))
        if word == "offers":
            return " ".join([str(row[0]) for row in self.worker.open_offers()]) or NOTHING
        found = first_wrong(self.server.engine.levels, self.server.log(), self.server.engine.limit)
        return NOTHING if found is None else str(found[0])
