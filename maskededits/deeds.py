"""The deeds that change the document. Each looks for refusals first, and returns what is told and its step."""

from maskededits.errors import Refused
from maskededits.forms import payload_size
from maskededits.steps import Step


def check_node(document, level, name):
    """Refuses a node that a level does not see, or that is of another level."""
    if not document.sees_node(level, name):
        raise Refused("name", name)
    if document.level_of(name) != level:
        raise Refused("own", name)


def check_holder(document, level, name):
    """Refuses a holder that a level does not see, or that is of another level."""
    if not document.sees_holder(level, name):
        raise Refused("name", name)
    if document.holder_level(name) != level:
        raise Refused("own", name)


def check_place(place, held):
    """Refuses a place that is none among the names held."""
    if not 0 <= place <= len(held):
        raise Refused("place", place)


def check_above(document, level, inner):
    """Refuses an inner level that is not a level strictly above a level."""
    if not document.levels.has(inner) or not document.levels.above(inner, level):
        raise Refused("above", inner)


def check_room(document, level, many):
    """Refuses more nodes of a level than there is room for."""
    if document.used_by(level) + many > document.limit:
        raise Refused("full", document.limit)


def with_name(held, name, place):
    """Returns the names held, with one more at a place."""
    return (*held[:place], name, *held[place:])


def without_name(held, name):
    """Returns the names held but one."""
    return tuple([each for each in held if each != name])


def placing_step(word, document, spot, name, grown):
    """Returns the step that puts a node at a place of a holder."""
    holder, place = spot
    held = document.held[holder]
    rows = {holder: (held, with_name(held, name, place))}
    return Step(word, document.holder_level(holder), {}, rows, grown)


def do_insert(document, level, first, parts):
    """Makes a plain node."""
    holder, place, kind, text = parts
    check_holder(document, level, holder)
    check_place(place, document.held[holder])
    check_room(document, level, 1)
    name = (first,)
    document.make(name, (kind, level, None), text, ())
    return name, placing_step("insert", document, (holder, place), name, 1)


def do_pocket(document, level, first, parts):
    """Makes a pocket and its box."""
    holder, place, inner, text = parts
    check_holder(document, level, holder)
    check_place(place, document.held[holder])
    check_above(document, level, inner)
    check_room(document, level, 1)
    name = (first,)
    document.make(name, ("pocket", level, inner), text, ())
    return name, placing_step("pocket", document, (holder, place), name, 1)


def do_change(document, level, first, parts):
    """Changes the text of a node."""
    name, text = parts
    check_node(document, level, name)
    old = document.texts[name]
    return old, Step("change", level, {name: (old, text)}, {}, 0)


def do_move(document, level, first, parts):
    """Moves a node, with what it holds."""
    name, holder, place = parts
    check_node(document, level, name)
    check_holder(document, level, holder)
    left = without_name(document.held[holder], name)
    check_place(place, left)
    if holder in document.piece(name):
        raise Refused("inside", holder)
    old = document.holders[name]
    rows = {old: (document.held[old], without_name(document.held[old], name))}
    rows[holder] = (document.held[holder], with_name(left, name, place))
    return None, Step("move", level, {}, rows, 0)


def do_copy(document, level, first, parts):
    """Makes a copy of a node and of all that is in it."""
    name, holder, place = parts
    check_node(document, level, name)
    check_holder(document, level, holder)
    check_place(place, document.held[holder])
    many = len(document.piece(name))
    check_room(document, level, many)
    step = placing_step("copy", document, (holder, place), (*name, first), many)
    for each in document.whole(name):
        held = tuple([(*child, first) for child in document.held[each]])
        document.make((*each, first), document.nodes[each], document.texts[each], held)
    return (*name, first), step


def do_box(document, level, first, parts):
    """Makes a loose box: its pocket is made, but nothing ever holds it."""
    inner = parts[0]
    check_above(document, level, inner)
    name = (first,)
    document.make(name, ("pocket", level, inner), "", ())
    return name, Step("box", level, {}, {}, 0)


def do_delete(document, level, first, parts):
    """Takes a node out of its holder."""
    name = parts[0]
    check_node(document, level, name)
    holder = document.holders[name]
    held = document.held[holder]
    piece = document.piece(name)
    rows = {holder: (held, without_name(held, name))}
    return len(piece), Step("delete", level, {}, rows, -document.own_many(piece, level))


def make_typed(document, payload, mark):
    """Makes the nodes of a payload, in document order from a mark on; returns the mark that comes next."""
    kind, text, payloads = payload
    level, source, number = mark
    behind = (level, source, number + 1)
    held = []
    for each in payloads:
        held.append((behind,))
        behind = make_typed(document, each, behind)
    document.make((mark,), (kind, level, None), text, tuple(held))
    return behind


def do_typed(document, level, first, parts):
    """Makes a plain node, with nodes in it, from a payload."""
    payload, holder, place = parts
    check_holder(document, level, holder)
    check_place(place, document.held[holder])
    many = payload_size(payload)
    check_room(document, level, many)
    make_typed(document, payload, first)
    return (first,), placing_step("typed", document, (holder, place), (first,), many)


ACTIONS = {
    "insert": do_insert,
    "pocket": do_pocket,
    "change": do_change,
    "move": do_move,
    "copy": do_copy,
    "box": do_box,
    "delete": do_delete,
    "typed": do_typed,
}


def prepared(document, level, first, deed):
    """Makes the nodes of a deed from its first mark on; returns what is told and the step to do."""
    action = ACTIONS[deed[0]]
    return action(document, level, first, deed[1:])
