"""Edits: the deeds that lead from a view to a changed text."""

from maskededits.errors import InvalidLevel, InvalidView
from maskededits.sequences import longest_common
from maskededits.texts import parse_lines
from maskededits.views import HOLDER, INNER, LEVEL, TEXT, View
from maskededits.wanted import COPY, NEW, OLD, Wanted


def check_view(view, level):
    """Raises InvalidView or InvalidLevel if a level cannot edit a view."""
    if not isinstance(view, View):
        raise InvalidView(view)
    if not isinstance(level, str) or level not in view.shown:
        raise InvalidLevel(level)
    for name in view.rows:
        row = view.rows[name]
        if row[LEVEL] == level and row[INNER] is not None and name in view.held:
            raise InvalidLevel(level)


def staying_nodes(wanted):
    """Returns a dict of the nodes that stay where they are."""
    rows = {}
    for index, sort in enumerate(wanted.sorts):
        if sort == OLD:
            rows.setdefault(wanted.holder_of(index), []).append(wanted.lines[index].node_name)
    held = wanted.seen.held
    return {name: True for holder in held for name in longest_common(held[holder], rows.get(holder, []))}


class Plan:
    """The deeds that lead to a changed text, with what each holder holds behind those found so far.

    A step is a tuple of the word of a deed, its parts ahead of the holder, the holder or None, its parts behind
    the holder, and the index of the line of the node that it makes. A new node has this index for a name.
    """

    def __init__(self, wanted):
        self.wanted = wanted
        self.seen = wanted.seen
        self.staying = staying_nodes(wanted)
        self.held = {holder: list(self.seen.held[holder]) for holder in self.seen.held}
        self.last = {}
        self.steps = []
        for index, sort in enumerate(wanted.sorts):
            if sort in (OLD, NEW, COPY):
                self.plan_line(index, sort)
        self.plan_deletes()

    def plan_line(self, index, sort):
        """Plans the deeds that a line of a node of the level asks for."""
        line = self.wanted.lines[index]
        holder = self.wanted.holder_of(index)
        name = line.node_name if sort == OLD else index
        if sort == NEW:
            self.held[index] = []
            self.plan_new(line, holder, index)
        elif sort == COPY:
            self.steps.append(("copy", (line.node_name,), holder, (self.placed(index, holder),), index))
        elif name not in self.staying:
            self.held[self.seen[name][HOLDER]].remove(name)
            self.steps.append(("move", (name,), holder, (self.placed(name, holder),), index))
        if sort == OLD and line.text != self.seen[name][TEXT]:
            self.steps.append(("change", (name, line.text), None, (), index))
        self.last[holder] = name

    def plan_new(self, line, holder, index):
        """Plans the deed that makes a new node."""
        place = self.placed(index, holder)
        if line.inner is None:
            self.steps.append(("insert", (), holder, (place, line.kind, line.text), index))
        else:
            self.steps.append(("pocket", (), holder, (place, line.inner, line.text), index))

    def placed(self, name, holder):
        """Puts a name behind the last one that its holder is asked to hold so far; returns its place."""
        held = self.held[holder]
        place = held.index(self.last[holder]) + 1 if holder in self.last else 0
        held.insert(place, name)
        return place

    def plan_deletes(self):
        """Plans to delete the nodes that are left out, unless another one of them holds them."""
        left = {}
        for name in self.seen.walk():
            if self.seen[name][LEVEL] == self.wanted.level and name not in self.wanted.first:
                left[name] = True
        for name in left:
            if self.seen[name][HOLDER] not in left:
                self.steps.append(("delete", (name,), None, (), None))


class Edit:
    """The deeds of a level that lead from a view to a changed text."""

    def __init__(self, view, level, text):
        check_view(view, level)
        self.steps = Plan(Wanted(view, level, parse_lines(text))).steps

    def __len__(self):
        return len(self.steps)

    def kinds(self):
        """Returns the first words of the deeds, in order."""
        return [step[0] for step in self.steps]

    @property
    def moves(self):
        """The number of moves."""
        return len([step for step in self.steps if step[0] == "move"])

    def __call__(self, perform):
        names = {}
        answers = []
        for word, front, holder, back, index in self.steps:
            spot = () if holder is None else (names.get(holder, holder),)
            answer = perform((word, *front, *spot, *back))
            answers.append(answer)
            if answer[0] == "refused":
                break
            names[index] = answer[1]
        return answers
