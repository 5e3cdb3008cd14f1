"""Views: what a level sees, as it was at one moment."""

from maskededits.errors import NotSeen
from maskededits.names import is_name

# The places of the parts in a row of a view.
KIND = 0
TEXT = 1
LEVEL = 2
INNER = 3
HOLDER = 4


def names_below(held, top):
    """Returns the names of all nodes below a holder, in document order."""
    found = []
    waiting = list(held[top][::-1])
    while waiting:
        name = waiting.pop()
        found.append(name)
        # A closed pocket has no row of names.
        waiting.extend(held.get(name, ())[::-1])
    return found


class View:
    """The nodes and the open boxes of some levels: rows of nodes, and names held."""

    def __init__(self, order, shown, rows, held, boxes):
        self.order = order
        self.shown = shown
        self.rows = rows
        self.held = held
        self.boxes = boxes
        # Whoever changes the dict that is handed out does not change the view.
        self.loose = {name: boxes[name] for name in boxes}

    def __contains__(self, name):
        return is_name(name) and name in self.rows

    def __getitem__(self, name):
        if name not in self:
            raise NotSeen(name)
        return self.rows[name]

    def __iter__(self):
        raise TypeError("a view is walked with walk()")

    def __len__(self):
        return len(self.rows)

    def __eq__(self, other):
        if not isinstance(other, View) or sorted(self.shown) != sorted(other.shown):
            return False
        return self.rows == other.rows and self.held == other.held and self.boxes == other.boxes

    def __and__(self, other):
        return View(
            self.order,
            [level for level in self.shown if level in other.shown],
            {name: self.rows[name] for name in self.rows if name in other.rows},
            {name: self.held[name] for name in self.held if name in other.held},
            {name: self.boxes[name] for name in self.boxes if name in other.boxes},
        )

    def __or__(self, other):
        return View(
            self.order,
            [level for level in self.order if level in self.shown or level in other.shown],
            {**self.rows, **other.rows},
            {**self.held, **other.held},
            {**self.boxes, **other.boxes},
        )

    def holds(self, name):
        """Returns the names that a seen node or its box holds, or an open box; None for a closed pocket."""
        if is_name(name) and name in self.held:
            return self.held[name]
        if name not in self:
            raise NotSeen(name)
        return None

    def path(self, name):
        """Returns the names from the box in which the way down begins to a node."""
        if name not in self:
            raise NotSeen(name)
        way = [name]
        while way[-1] in self.rows:
            way.append(self.rows[way[-1]][HOLDER])
        return tuple(way[::-1])

    def branches(self, top):
        """Returns the branches of all that a box holds."""
        # Behind a node come those in it, so backwards each node finds its branches made.
        built = {}
        for name in names_below(self.held, top)[::-1]:
            kind, text, level, inner, holder = self.rows[name]
            below = None
            if name in self.held:
                below = tuple([built[child] for child in self.held[name]])
            built[name] = (name, kind, text, inner, below)
        return tuple([built[name] for name in self.held[top]])

    def tree(self):
        """Returns the branches of the root box."""
        return self.branches(())

    def attic(self):
        """Returns the loose boxes with their levels and branches, in ascending order of names."""
        return tuple([(name, self.boxes[name], self.branches(name)) for name in sorted(self.boxes)])

    def walk(self):
        """Yields the names of all nodes, in document order, behind them those in loose boxes."""
        for box in [(), *sorted(self.boxes)]:
            yield from names_below(self.held, box)


def view_of(document, shown):
    """Returns the view of a document that shows some levels."""
    inner_levels = document.boxes
    loose = [name for name in inner_levels if inner_levels[name] in shown and not document.is_there(name)]
    rows = {}
    held = {}
    for box in [(), *loose]:
        held[box] = document.held[box]
        waiting = list(held[box])
        while waiting:
            name = waiting.pop()
            kind, level, inner = document.nodes[name]
            rows[name] = (kind, document.text_shown(name, shown), level, inner, document.holders[name])
            if inner is None or inner in shown:
                held[name] = document.held[name]
                waiting.extend(held[name])
    return View(document.levels.names(), shown, rows, held, {name: inner_levels[name] for name in loose})
