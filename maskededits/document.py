"""The document: the nodes and boxes of all levels, with those that are not there any more."""

BACK = 0
AGAIN = 1


def copied(table):
    """Returns a new dict with the same keys and values."""
    return {key: table[key] for key in table}


class Document:
    """Nodes by their names, and what each of them, or its box, holds.

    A box has the name of its pocket, so one table has the names held by plain nodes and by boxes.
    Nodes are never dropped: a deed that takes a node away can be undone.
    """

    def __init__(self, levels, limit):
        self.levels = levels
        self.limit = limit
        self.nodes = {}
        self.texts = {}
        self.held = {(): ()}
        self.holders = {}
        self.boxes = {}
        self.drawn = {}
        self.numbers = {}
        self.used = {level: 0 for level in levels.names()}

    def blank(self):
        """Returns a new document of the same kind."""
        return Document(self.levels, self.limit)

    def twin(self):
        """Returns an independent document in the same state."""
        other = self.blank()
        other.nodes = copied(self.nodes)
        other.texts = copied(self.texts)
        other.held = copied(self.held)
        other.holders = copied(self.holders)
        other.boxes = copied(self.boxes)
        other.drawn = copied(self.drawn)
        other.numbers = copied(self.numbers)
        other.used = copied(self.used)
        return other

    def level_of(self, name):
        """Returns the level of a node."""
        return self.nodes[name][1]

    def holder_level(self, name):
        """Returns the level of the nodes that a box or a plain node may hold."""
        if name == ():
            return self.levels.least
        if name in self.boxes:
            return self.boxes[name]
        return self.level_of(name)

    def is_there(self, name):
        """Tells whether a node is held by a box, or by a plain node that is there."""
        holder = self.holders[name]
        while holder is not None and holder != () and holder not in self.boxes:
            holder = self.holders[holder]
        return holder is not None

    def sees_node(self, level, name):
        """Tells whether a level sees a node of this name."""
        if name not in self.nodes:
            return False
        return self.levels.leq(self.level_of(name), level) and self.is_there(name)

    def sees_holder(self, level, name):
        """Tells whether a level sees a plain node of this name, or sees into a box of this name."""
        if name == ():
            return True
        if name in self.boxes:
            return self.levels.leq(self.boxes[name], level)
        return self.sees_node(level, name)

    def piece(self, name):
        """Returns a node and all nodes of its level in it."""
        return self.gathered(name, False)

    def whole(self, name):
        """Returns a node and all nodes in it, those in boxes included."""
        return self.gathered(name, True)

    def gathered(self, name, into_boxes):
        """Returns a node and all nodes in it, with or without those in boxes."""
        found = []
        waiting = [name]
        while waiting:
            each = waiting.pop()
            found.append(each)
            if into_boxes or each not in self.boxes:
                waiting.extend(self.held[each])
        return found

    def own_many(self, names, level):
        """Returns how many of some nodes of a level were made by deeds of this level."""
        # A lower level that copies a node puts a mark of its own at the end of the name.
        return len([name for name in names if name[-1][0] == level])

    def used_by(self, level):
        """Returns how many nodes count as made by the own deeds of a level."""
        return self.used[level]

    def text_shown(self, name, shown):
        """Returns the text of a node as it is shown to who sees some levels."""
        return self.texts[name]

    def next_mark(self, level, source):
        """Returns the mark that comes next for a level and source."""
        return (level, source, self.numbers.get((level, source), 0) + 1)

    def make(self, name, node, text, held):
        """Makes a node, a tuple of kind, level and inner level, that nothing holds yet."""
        self.nodes[name] = node
        self.texts[name] = text
        self.held[name] = held
        if node[2] is not None:
            self.boxes[name] = node[2]
        # A node that holds this one may have been made ahead of it.
        self.holders.setdefault(name, None)
        for child in held:
            self.holders[child] = name
        self.note_mark(name[-1])

    def note_mark(self, mark):
        """Notes that a mark is drawn; the numbers of its level and source go on behind it."""
        self.drawn[mark] = True
        key = (mark[0], mark[1])
        self.numbers[key] = max(mark[2], self.numbers.get(key, 0))

    def refill(self, box, names):
        """Lets go of what a box holds, and puts nodes into it that nothing holds."""
        for name in self.held[box]:
            self.holders[name] = None
        self.held[box] = names
        for name in names:
            self.holders[name] = box

    def lead(self, step, side):
        """Leads to what was before the step of a deed, or to what was behind it."""
        for name in step.texts:
            self.texts[name] = step.texts[name][side]
        for holder in step.rows:
            for name in self.held[holder]:
                self.holders[name] = None
        # All names are let go first: a moved node stands in two of the rows.
        for holder in step.rows:
            self.held[holder] = step.rows[holder][side]
            for name in self.held[holder]:
                self.holders[name] = holder
        self.used[step.level] += step.grown if side == AGAIN else -step.grown

    def summary(self, shown):
        """Returns a value of all nodes of some levels, and of what their holders hold."""
        rows = [((), self.held[()])]
        for name in sorted([name for name in self.nodes if self.level_of(name) in shown]):
            inner = self.nodes[name][2]
            held = self.held[name] if inner is None or inner in shown else None
            rows.append((name, self.nodes[name], self.text_shown(name, shown), held))
        return tuple(rows)

    def last_numbers(self, shown):
        """Returns the last numbers of some levels and of each source, as a tuple."""
        return tuple([(key, self.numbers[key]) for key in sorted(self.numbers) if key[0] in shown])
