"""Questions about views: conditions, paths, sizes, orders, groups and differences.

Conditions and paths keep how they were made, as a tuple; its first word says what the rest means.
"""

from maskededits.errors import InvalidQuery, InvalidView, NotSeen
from maskededits.levels import is_word
from maskededits.names import is_name
from maskededits.sequences import longest_common
from maskededits.views import TEXT, View, names_below

SIZE = "size"
# For each other word by which names are sorted the place of this part in a row of a view.
PARTS = {"kind": 0, "text": 1, "level": 2}


def fits(shape, view, name):
    """Tells whether a node that is seen fits what a condition was made of."""
    sort = shape[0]
    if sort == "both":
        return fits(shape[1], view, name) and fits(shape[2], view, name)
    if sort == "either":
        return fits(shape[1], view, name) or fits(shape[2], view, name)
    if sort == "not":
        return not fits(shape[1], view, name)
    if sort == "any":
        return True
    if sort == "closed":
        return view.holds(name) is None
    if sort == "text":
        return shape[1] in view[name][TEXT]
    return shape[1] == view[name][PARTS[sort]]


class Condition:
    """Tells whether a node of a view fits."""

    def __init__(self, shape):
        self.shape = shape

    def __call__(self, view, name):
        if name not in view:
            raise NotSeen(name)
        return fits(self.shape, view, name)

    def __and__(self, other):
        if not isinstance(other, Condition):
            raise InvalidQuery(other)
        return Condition(("both", self.shape, other.shape))

    def __or__(self, other):
        if not isinstance(other, Condition):
            raise InvalidQuery(other)
        return Condition(("either", self.shape, other.shape))

    def __invert__(self):
        return Condition(("not", self.shape))

    def __eq__(self, other):
        return isinstance(other, Condition) and self.shape == other.shape


def of_kind(word):
    """Returns the condition that the kind is a word."""
    if not is_word(word):
        raise InvalidQuery(word)
    return Condition(("kind", word))


def with_text(text):
    """Returns the condition that the text of the node contains a text."""
    if not isinstance(text, str):
        raise InvalidQuery(text)
    return Condition(("text", text))


def of_level(level):
    """Returns the condition that the node is of a level."""
    if not is_word(level):
        raise InvalidQuery(level)
    return Condition(("level", level))


def closed_pockets():
    """Returns the condition that the node is a closed pocket."""
    return Condition(("closed",))


def any_node():
    """Returns the condition that all nodes fit."""
    return Condition(("any",))


def held_by_all(view, names):
    """Returns the names of all nodes that nodes and boxes of some names hold."""
    # What a closed pocket holds is not in the view.
    return [child for name in names for child in view.held.get(name, ())]


def all_below(view, names):
    """Returns the names of all nodes below nodes and boxes of some names, each once."""
    found = {}
    waiting = held_by_all(view, names)
    while waiting:
        name = waiting.pop()
        if name not in found:
            found[name] = True
            waiting.extend(view.held.get(name, ()))
    return list(found)


def selected(shape, view):
    """Returns a dict of the names that a path of this shape selects, in no certain order."""
    sort = shape[0]
    if sort == "root":
        return {(): True}
    if sort == "loose":
        return {name: True for name in view.boxes}
    one = selected(shape[1], view)
    if sort == "held":
        return {name: True for name in held_by_all(view, one) if fits(shape[2], view, name)}
    if sort == "below":
        return {name: True for name in all_below(view, one) if fits(shape[2], view, name)}
    other = selected(shape[2], view)
    if sort == "either":
        return {**one, **other}
    if sort == "both":
        return {name: True for name in one if name in other}
    return {name: True for name in one if name not in other}


class Path:
    """Tells a selection for a view: names of nodes and boxes in document order."""

    def __init__(self, shape):
        self.shape = shape

    def __call__(self, view):
        found = selected(self.shape, view)
        order = [name for box in [(), *sorted(view.boxes)] for name in [box, *names_below(view.held, box)]]
        return [name for name in order if name in found]

    def __rshift__(self, other):
        if not isinstance(other, Condition):
            raise InvalidQuery(other)
        return Path(("held", self.shape, other.shape))

    def __floordiv__(self, other):
        if not isinstance(other, Condition):
            raise InvalidQuery(other)
        return Path(("below", self.shape, other.shape))

    def __or__(self, other):
        if not isinstance(other, Path):
            raise InvalidQuery(other)
        return Path(("either", self.shape, other.shape))

    def __and__(self, other):
        if not isinstance(other, Path):
            raise InvalidQuery(other)
        return Path(("both", self.shape, other.shape))

    def __sub__(self, other):
        if not isinstance(other, Path):
            raise InvalidQuery(other)
        return Path(("without", self.shape, other.shape))

    def __eq__(self, other):
        return isinstance(other, Path) and self.shape == other.shape


def from_root():
    """Returns the path that selects the root box."""
    return Path(("root",))


def from_loose():
    """Returns the path that selects all loose boxes."""
    return Path(("loose",))


def size_below(view, name):
    """Returns how many nodes there are below a node, itself included, or in a box."""
    if not is_name(name) or (name not in view.rows and name not in view.held):
        raise NotSeen(name)
    many = 1 if name in view.rows else 0
    if name in view.held:
        many += len(names_below(view.held, name))
    return many


def sorting_value(view, name, key):
    """Returns the value of a node by which it is sorted."""
    if key == SIZE:
        return size_below(view, name)
    return view[name][PARTS[key]]


def rows_in_order(view, names, key):
    """Returns pairs of a value and a name, each name once, in document order."""
    if not isinstance(key, str) or (key != SIZE and key not in PARTS):
        raise InvalidQuery(key)
    wanted = {}
    for name in names:
        if name not in view:
            raise NotSeen(name)
        wanted[name] = True
    return [(sorting_value(view, name, key), name) for name in view.walk() if name in wanted]


def sorted_by(view, names, key):
    """Returns names in ascending order of a value, equal ones in document order."""
    rows = rows_in_order(view, names, key)
    # Places stand behind the values, so names with equal values keep their order.
    values = sorted([(row[0], place) for place, row in enumerate(rows)])
    return [rows[place][1] for value, place in values]


def grouped_by(view, names, key):
    """Returns a dict from values to the names with them, in document order."""
    groups = {}
    for value, name in rows_in_order(view, names, key):
        groups.setdefault(value, []).append(name)
    return groups


class Difference:
    """What two views differ in: four lists of names of nodes, in document order."""

    def __init__(self, gone, new, changed, moved):
        self.lists = (list(gone), list(new), list(changed), list(moved))

    @property
    def gone(self):
        """The nodes that only the first view shows."""
        return list(self.lists[0])

    @property
    def new(self):
        """The nodes that only the other view shows."""
        return list(self.lists[1])

    @property
    def changed(self):
        """The nodes of both views with different texts."""
        return list(self.lists[2])

    @property
    def moved(self):
        """A shortest list of nodes without which all others stand as before."""
        return list(self.lists[3])

    def __bool__(self):
        return any([len(names) > 0 for names in self.lists])

    def __eq__(self, other):
        return isinstance(other, Difference) and self.lists == other.lists


def unmoved(one, other):
    """Returns a dict of nodes that have the same holder in two views, and in it the same order."""
    kept = {}
    for holder in one.held:
        for name in longest_common(one.held[holder], other.held.get(holder, ())):
            kept[name] = True
    return kept


def compare_views(one, other):
    """Returns the difference of two views."""
    for view in (one, other):
        if not isinstance(view, View):
            raise InvalidView(view)
    if sorted(one.shown) != sorted(other.shown):
        raise InvalidView(other)
    kept = unmoved(one, other)
    common = [name for name in other.walk() if name in one.rows]
    return Difference(
        [name for name in one.walk() if name not in other.rows],
        [name for name in other.walk() if name not in one.rows],
        [name for name in common if one[name][TEXT] != other[name][TEXT]],
        [name for name in common if name not in kept],
    )
