"""Engines with one fault each, by which a level is told, or loses, what it should not."""

from maskededits.deeds import check_node
from maskededits.document import Document
from maskededits.engine import Engine
from maskededits.errors import NoFault, Refused
from maskededits.forms import is_deed

FAULTS = (
    "numbers",
    "clock",
    "hidden",
    "heavy",
    "room",
    "undos",
    "redos",
    "steps",
    "shown",
    "emptied",
    "shallow",
    "stolen",
)
# The deeds that name a node ahead of all else.
NAMING = ("change", "move", "copy", "delete")


def filled_boxes(document, names):
    """Returns the names of those pockets among some nodes whose boxes hold something."""
    return [name for name in names if name in document.boxes and document.held[name] != ()]


def check_hidden(engine, level, deed):
    """Refuses a node with own that a level cannot see because it is of a level that is not below."""
    if deed[0] not in NAMING:
        return
    name = deed[1]
    document = engine.document
    if name not in document.nodes or not document.is_there(name):
        return
    if not document.levels.leq(document.level_of(name), level):
        raise Refused("own", name)


def check_heavy(engine, level, deed):
    """Refuses to delete a piece of a level with a box that holds something."""
    if deed[0] == "delete":
        name = deed[1]
        check_node(engine.document, level, name)
        if filled_boxes(engine.document, engine.document.piece(name)):
            raise Refused("heavy", name)


def empty_deleted(engine, deed, many):
    """Takes all nodes out of the boxes of a piece that was deleted."""
    if deed[0] != "delete":
        return
    document = engine.document
    for name in filled_boxes(document, document.piece(deed[1])):
        inner = document.boxes[name]
        gone = [each for child in document.held[name] for each in document.piece(child)]
        document.used[inner] -= document.own_many(gone, inner)
        document.refill(name, ())
        engine.undos[inner] = []
        engine.redos[inner] = []


def copied_boxes(engine, deed, many):
    """Returns the names of the pockets that a deed has copied; there were so many nodes ahead of it."""
    if deed[0] != "copy":
        return []
    # Nodes are never dropped, so the new ones stand behind all others.
    return [name for name in list(engine.document.nodes)[many:] if name in engine.document.boxes]


def empty_copied(engine, deed, many):
    """Lets the boxes of all copied pockets be empty."""
    for name in copied_boxes(engine, deed, many):
        engine.document.refill(name, ())


def steal_copied(engine, deed, many):
    """Moves what the boxes of pockets of the level of a deed hold into the boxes of their copies."""
    document = engine.document
    for name in copied_boxes(engine, deed, many):
        # A pocket that was copied is of the level that has drawn the mark, or stands in a box.
        if document.level_of(name) == name[-1][0]:
            held = document.held[name[:-1]]
            document.refill(name[:-1], ())
            document.refill(name, held)


# For each fault that refuses more what looks for it, and for each one that does more what does it.
CHECKS = {"hidden": check_hidden, "heavy": check_heavy}
EFFECTS = {"emptied": empty_deleted, "shallow": empty_copied, "stolen": steal_copied}


class FaultyDocument(Document):
    """A document of an engine with a fault."""

    def __init__(self, levels, limit, fault):
        super().__init__(levels, limit)
        self.fault = fault

    def blank(self):
        """Returns a new document with the same fault."""
        return FaultyDocument(self.levels, self.limit, self.fault)

    def next_mark(self, level, source):
        """Returns the mark that comes next."""
        if self.fault == "numbers":
            return (level, source, 1 + self.greatest_number())
        return super().next_mark(level, source)

    def greatest_number(self):
        """Returns the greatest number that was drawn for any level and source."""
        return max([self.numbers[key] for key in self.numbers], default=0)

    def last_numbers(self, shown):
        """Returns the last numbers of some levels; with one row of numbers for all, its last one."""
        if self.fault == "numbers":
            return (self.greatest_number(),)
        return super().last_numbers(shown)

    def used_by(self, level):
        """Returns how many nodes count as made by the own deeds of a level."""
        if self.fault == "room":
            return len([name for name in self.nodes if self.is_there(name)])
        return super().used_by(level)

    def text_shown(self, name, shown):
        """Returns the text of a node as it is shown to who sees some levels."""
        text = super().text_shown(name, shown)
        if self.fault == "shown" and self.is_closed(name, shown) and self.is_there(name) and self.held[name] != ():
            return f"{text}*"
        return text

    def is_closed(self, name, shown):
        """Tells whether a node is a pocket into whose box some levels do not see."""
        return name in self.boxes and self.boxes[name] not in shown


class FaultyEngine(Engine):
    """An engine with a fault."""

    def __init__(self, levels, limit, fault):
        super().__init__(levels, limit=limit)
        self.fault = fault
        self.document = FaultyDocument(levels, limit, fault)

    def blank(self):
        """Returns a new engine with the same fault."""
        return FaultyEngine(self.levels, self.limit, self.fault)

    def done(self, level, deed, source, mark):
        """Does a deed and returns what is told, or raises Refused before anything is changed."""
        many = len(self.document.nodes)
        if self.fault in CHECKS and is_deed(deed):
            check = CHECKS[self.fault]
            check(self, level, deed)
        value = super().done(level, deed, source, mark)
        if self.fault in EFFECTS:
            effect = EFFECTS[self.fault]
            effect(self, deed, many)
        return value

    def keep(self, level, step):
        """Keeps a step that was done, so that it can be undone; what was undone is gone now."""
        super().keep(self.list_level(level), step)
        if self.fault == "redos":
            for each in self.levels.names():
                self.redos[each] = []

    def led(self, level, steps, others, side):
        """Undoes or redoes the latest one of the steps of a level and returns its word."""
        return super().led(self.list_level(level), steps, others, side)

    def list_level(self, level):
        """Returns the level under which the steps of a level are kept."""
        return self.levels.least if self.fault == "undos" else level

    def script_steps(self):
        """Returns how many steps a script has."""
        steps = super().script_steps()
        return max(0, steps - len(self.document.nodes)) if self.fault == "steps" else steps

    def clock(self, level):
        """Returns how many deeds were accepted, of all levels if this is the fault."""
        many = super().clock(level)
        return len(self.entries) if self.fault == "clock" else many


def faulty_engine(word, levels, limit=40):
    """Returns a new engine with one fault, for the empty text one without."""
    if not isinstance(word, str) or (word != "" and word not in FAULTS):
        raise NoFault(word)
    if word == "":
        return Engine(levels, limit=limit)
    return FaultyEngine(levels, limit, word)
