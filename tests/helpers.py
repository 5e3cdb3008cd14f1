"""What several tests need: engines with some deeds done, and the summary of all that a level is told."""

from maskededits.engine import Engine
from maskededits.levels import Levels


def two_levels(**named):
    """Returns an engine of the levels low and high."""
    return Engine(Levels(["low", "high"]), **named)


def diamond(**named):
    """Returns an engine of four levels, two of which cannot be compared."""
    return Engine(Levels(["low", "east", "west", "top"], [("east", "top"), ("west", "top")]), **named)


def low(number, source=""):
    return (("low", source, number),)


def high(number, source=""):
    return (("high", source, number),)


def told(engine, level, *deeds):
    """Does deeds that must be accepted and returns what is told."""
    values = []
    for deed in deeds:
        answer = engine.perform(level, deed)
        if answer[0] != "told":
            raise AssertionError((level, deed, answer))
        values.append(answer[1])
    return values


def seen_of(engine, level):
    """Returns all that a level is told by an engine without a deed."""
    return (engine.view(level), engine.view(level).tree(), engine.view(level).attic(), engine.clock(level),
            engine.room(level), engine.log(level), engine.state(level))


def all_seen(engine):
    return [seen_of(engine, level) for level in engine.levels.names()]


def named_tree(engine, level, top=()):
    """Returns the texts that a level sees below a holder, nested as the nodes are."""
    view = engine.view(level)
    held = view.holds(top)
    return None if held is None else [[view[name][1], named_tree(engine, level, name)] for name in held]


def texts(engine, level, top=()):
    """Returns the texts of the nodes that a holder holds."""
    view = engine.view(level)
    return [view[name][1] for name in view.holds(top)]
