"""Doing accepted deeds again."""

from maskededits.engine import Engine
from maskededits.forms import marks_made


def mark_told(deed, told):
    """Returns the mark with which a deed must be done again, or None if its marks come of themselves."""
    if marks_made(deed) == 0 or told[-1][1] == "":
        return None
    return told[-1]


def replayed(levels, limit, entries):
    """Returns a new engine in which the deeds of entries are done."""
    engine = Engine(levels, limit=limit)
    for level, deed, told in entries:
        engine.perform(level, deed, mark=mark_told(deed, told))
    return engine
