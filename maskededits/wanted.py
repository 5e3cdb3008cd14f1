"""What the lines of a changed text ask for, compared with a view."""

from maskededits.errors import InvalidEdit
from maskededits.texts import view_lines
from maskededits.views import LEVEL

# What a line can stand for: a loose box, a node of another level, a node of the level, a new node,
# a copy, and a line below the first one of a copy.
BOX = "box"
OTHER = "other"
OLD = "old"
NEW = "new"
COPY = "copy"
PART = "part"


def parents_of(lines):
    """Returns for each line the index of the line that holds it, or None."""
    parents = []
    around = []
    for index, line in enumerate(lines):
        around = around[:line.depth]
        parents.append(around[-1] if around else None)
        around.append(index)
    return parents


def block_at(lines, index):
    """Returns a line and all lines below it."""
    end = index + 1
    while end < len(lines) and lines[end].depth > lines[index].depth:
        end += 1
    return lines[index:end]


def is_like(one, other):
    """Tells whether two lines are the same but for depth and text."""
    if one.kind != other.kind or one.node_name != other.node_name:
        return False
    return one.inner == other.inner and one.is_open == other.is_open


def are_same(one, other):
    """Tells whether two blocks of lines are the same but for the depth at which they stand."""
    if len(one) != len(other):
        return False
    deeper = one[0].depth - other[0].depth
    return all([
        is_like(first, second) and first.text == second.text and first.depth == second.depth + deeper
        for first, second in zip(one, other)
    ])


class Wanted:
    """The lines of a changed text, with what each of them stands for.

    A holder is told by its name; a new node, which has none yet, by the index of its line.
    """

    def __init__(self, view, level, lines):
        self.seen = view
        self.level = level
        self.lines = lines
        self.parents = parents_of(lines)
        self.shown = view_lines(view)
        self.places = {line.node_name: index for index, line in enumerate(self.shown)}
        self.first = {}
        self.met = {}
        self.last_box = None
        self.sorts = []
        while len(self.sorts) < len(lines):
            self.read_line(len(self.sorts))
        others = [name for name in view.rows if view.rows[name][LEVEL] != level]
        if len([sort for sort in self.sorts if sort == OTHER]) < len(others):
            raise InvalidEdit(None)

    def read_line(self, index):
        """Notes what the next line stands for, and with the first line of a copy all of the copy."""
        line = self.lines[index]
        sort = self.sort_of(line)
        if not self.is_allowed(sort, index):
            raise InvalidEdit(index)
        self.sorts.append(sort)
        if sort == BOX:
            self.last_box = line.node_name
        elif sort == OLD:
            self.first[line.node_name] = index
        elif sort == OTHER:
            holder = self.holder_of(index)
            self.met[holder] = self.met.get(holder, 0) + 1
        elif sort == COPY:
            self.sorts.extend([PART for below in block_at(self.lines, index)[1:]])

    def sort_of(self, line):
        """Returns what a line stands for, if it stands for anything."""
        if line.text is None:
            return BOX
        if line.node_name is None:
            return NEW
        if line.node_name in self.first:
            return COPY
        if line.node_name in self.seen and self.seen[line.node_name][LEVEL] == self.level:
            return OLD
        return OTHER

    def is_allowed(self, sort, index):
        """Tells whether a line asks for no more than it may."""
        line = self.lines[index]
        if sort == BOX:
            return line.node_name in self.seen.boxes and (self.last_box is None or self.last_box < line.node_name)
        if sort == OTHER:
            return self.is_next(index)
        if self.holder_level(index) != self.level:
            return False
        if sort == NEW:
            return self.may_be_new(line)
        if sort == COPY:
            return self.is_copied(index)
        return is_like(line, self.shown[self.places[line.node_name]])

    def holder_of(self, index):
        """Returns the name of what holds a line, or the index of its line if it is new."""
        parent = self.parents[index]
        if parent is None:
            return ()
        name = self.lines[parent].node_name
        return parent if name is None else name

    def holder_level(self, index):
        """Returns the level of the nodes that what holds a line may hold."""
        parent = self.parents[index]
        if parent is None:
            return self.seen.order[0]
        line = self.lines[parent]
        if line.text is None:
            return self.seen.boxes[line.node_name]
        if line.inner is not None:
            return line.inner
        if line.node_name is None:
            return self.level
        return self.seen[line.node_name][LEVEL]

    def is_next(self, index):
        """Tells whether a line is the next one, unchanged, that its holder holds in the view."""
        holder = self.holder_of(index)
        held = self.seen.held.get(holder, ())
        met = self.met.get(holder, 0)
        line = self.lines[index]
        if met >= len(held) or held[met] != line.node_name:
            return False
        return are_same([line], [self.shown[self.places[line.node_name]]])

    def may_be_new(self, line):
        """Tells whether there may be a new node with such a line, as far as its inner level goes."""
        if line.inner is None:
            return True
        order = self.seen.order
        if line.inner not in self.seen.shown:
            return not line.is_open
        return line.is_open and order.index(line.inner) > order.index(self.level)

    def is_copied(self, index):
        """Tells whether the lines of a copy, and those of its node, are those of the view."""
        name = self.lines[index].node_name
        block = block_at(self.shown, self.places[name])
        return all([are_same(block_at(self.lines, each), block) for each in (index, self.first[name])])
