"""The texts of views: one line for each node and for each loose box."""

from maskededits.errors import InvalidName, InvalidText
from maskededits.forms import is_plain_kind, is_text
from maskededits.levels import is_word
from maskededits.names import name_text, parse_name

LOOSE = "loose"
POCKET = "pocket"
# What stands in the place of the name of a new node.
NO_NAME = "-"


def quoted(text):
    """Returns a text between quotation marks."""
    # Backslashes first: those ahead of the quotation marks do not stand in the text.
    marked = text.replace("\\", "\\\\").replace('"', '\\"')
    return f'"{marked}"'


class Line:
    """A line of the text of a view: a node, or a loose box, which has no text."""

    def __init__(self, depth, kind, node_name, inner, is_open, text):
        self.depth = depth
        self.kind = kind
        self.node_name = node_name
        self.inner = inner
        self.is_open = is_open
        self.text = text

    def words(self):
        """Returns what stands in the line, separated by spaces."""
        name = NO_NAME if self.node_name is None else name_text(self.node_name)
        around = "{}" if self.is_open else "[]"
        inner = [] if self.inner is None else [f"{around[0]}{self.inner}{around[1]}"]
        text = [] if self.text is None else [quoted(self.text)]
        return [self.kind, name, *inner, *text]

    def __str__(self):
        return "".join(["  " * self.depth, " ".join(self.words())])

    def __eq__(self, other):
        if not isinstance(other, Line) or self.depth != other.depth or self.kind != other.kind:
            return False
        if self.node_name != other.node_name or self.inner != other.inner:
            return False
        return self.is_open == other.is_open and self.text == other.text


def view_lines(view):
    """Returns the lines of a view."""
    lines = []
    for box in [(), *sorted(view.boxes)]:
        depth = 0
        if box != ():
            lines.append(Line(0, LOOSE, box, None, False, None))
            depth = 1
        waiting = [(name, depth) for name in view.held[box][::-1]]
        while waiting:
            name, depth = waiting.pop()
            kind, text, level, inner, holder = view.rows[name]
            lines.append(Line(depth, kind, name, inner, inner is not None and name in view.held, text))
            waiting.extend([(child, depth + 1) for child in view.held.get(name, ())[::-1]])
    return lines


def format_view(view):
    """Returns the text of a view."""
    return "\n".join([str(line) for line in view_lines(view)])


def name_in_line(word, index):
    """Returns the name of a node that a word of a line writes, None for a new node."""
    if word == NO_NAME:
        return None
    try:
        name = parse_name(word)
    except InvalidName:
        raise InvalidText(index) from None
    if name == ():
        raise InvalidText(index)
    return name


def text_in_line(part, index):
    """Returns the text of a node that stands between quotation marks in a line."""
    if len(part) < 2 or part[0] != '"' or part[-1] != '"':
        raise InvalidText(index)
    signs = []
    at = 1
    while at < len(part) - 1:
        if part[at] == '"':
            raise InvalidText(index)
        if part[at] == "\\":
            at += 1
            # The last quotation mark ends the text, so no backslash may stand ahead of it.
            if at == len(part) - 1 or part[at] not in ('"', "\\"):
                raise InvalidText(index)
        signs.append(part[at])
        at += 1
    text = "".join(signs)
    if not is_text(text):
        raise InvalidText(index)
    return text


def loose_line(words, depth, index):
    """Returns the line of a loose box that two words write."""
    name = name_in_line(words[1], index)
    if words[0] != LOOSE or name is None or depth != 0:
        raise InvalidText(index)
    return Line(0, LOOSE, name, None, False, None)


def pocket_line(name, rest, depth, index):
    """Returns the line of a pocket; the rest begins with its inner level."""
    part, blank, text = rest.partition(" ")
    inner = part[1:-1]
    around = (part[:1], part[-1:])
    if not is_word(inner) or around not in (("{", "}"), ("[", "]")):
        raise InvalidText(index)
    return Line(depth, POCKET, name, inner, around == ("{", "}"), text_in_line(text, index))


def line_in_row(row, index):
    """Returns the line that a row writes."""
    body = row.lstrip(" ")
    spaces = len(row) - len(body)
    depth = spaces // 2
    words = body.split(" ", 2)
    if spaces != 2 * depth or len(words) < 2:
        raise InvalidText(index)
    if len(words) == 2:
        return loose_line(words, depth, index)
    name = name_in_line(words[1], index)
    if words[0] == POCKET:
        return pocket_line(name, words[2], depth, index)
    if not is_plain_kind(words[0]):
        raise InvalidText(index)
    return Line(depth, words[0], name, None, False, text_in_line(words[2], index))


def greatest_depth(ahead):
    """Returns the greatest depth of a line behind some lines."""
    if not ahead:
        return 0
    last = ahead[-1]
    return last.depth if last.inner is not None and not last.is_open else last.depth + 1


def parse_lines(text):
    """Returns the lines that a text writes."""
    if not isinstance(text, str):
        raise InvalidText(None)
    rows = text.split("\n") if text != "" else []
    lines = []
    has_loose = False
    for index, row in enumerate(rows):
        line = line_in_row(row, index)
        if line.depth > greatest_depth(lines):
            raise InvalidText(index)
        if line.text is None:
            has_loose = True
        elif has_loose and line.depth == 0:
            raise InvalidText(index)
        lines.append(line)
    return lines
