"""Doing accepted deeds again."""

from maskededits.engine import Engine
from maskededits.forms import marks_made


def mark_told(deed, told):
    """Returns the first mark that a deed drew, or None; with it the deed is done again in the same way."""
    return told[-1] if marks_made(deed) > 0 else None


def replayed(levels, limit, entries):
    """Returns a new engine in which the deeds of entries are done."""
    engine = Engine(levels, limit=limit)
    for level, deed, told in entries:
        engine.perform(level, deed, mark=mark_told(deed, told))
    return engine
