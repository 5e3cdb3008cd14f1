"""Finding losses: what a level finds otherwise behind a call that may not change it."""

from maskededits.checker import answer_to, check_calls
from maskededits.faults import faulty_engine
from maskededits.views import HOLDER, INNER, LEVEL


def with_mark(names, mark):
    """Returns names with a mark at the end of each."""
    return tuple([(*name, mark) for name in names])


class Change:
    """What a level saw before a call, and sees behind it."""

    def __init__(self, level, before, behind):
        self.level = level
        self.before = before
        self.behind = behind

    def first_found(self, maker):
        """Returns the word and the name of the first loss; maker is the level that may have copied, or None."""
        for name in self.before.walk():
            if self.before[name][LEVEL] == self.level:
                word = self.lost(name)
                if word is not None:
                    return (word, name)
        for name in self.behind.walk():
            word = self.wrongly_made(name, maker)
            if word is not None:
                return (word, name)
        return None

    def lost(self, name):
        """Returns what is wrong with a node that was seen before, or None."""
        if name not in self.behind:
            return "gone"
        if self.behind[name] != self.before[name]:
            return "changed"
        holder = self.before[name][HOLDER]
        if self.before.holds(holder).index(name) != self.behind.holds(holder).index(name):
            return "order"
        return None

    def wrongly_made(self, name, maker):
        """Returns what is wrong with a node that is seen behind the call, or None."""
        if self.behind[name][LEVEL] == self.level and name not in self.before:
            if maker is None or name[-1][0] != maker or name[:-1] not in self.behind:
                return "new"
            if not self.is_copied(name):
                return "copy"
        # Whether L saw into a box before: what it sees into has a row of names held.
        is_new_box = self.behind[name][INNER] == self.level and name not in self.before.held
        if maker is not None and is_new_box and not self.is_filled(name):
            return "copy"
        return None

    def is_copied(self, name):
        """Tells whether a node is as its source is, and stands in the copy of what holds this."""
        row = self.behind[name]
        source = self.behind[name[:-1]]
        if row[:HOLDER] != source[:HOLDER] or row[HOLDER] != (*source[HOLDER], name[-1]):
            return False
        return row[INNER] is not None or self.holds_copies(name)

    def holds_copies(self, name):
        """Tells whether a node or box holds the copies of what its source holds."""
        return self.behind.holds(name) == with_mark(self.behind.holds(name[:-1]), name[-1])

    def is_filled(self, name):
        """Tells whether a box into which the level did not see before holds what it should."""
        if len(name) == 1:
            return self.behind.holds(name) == ()
        return name[:-1] not in self.behind.held or self.holds_copies(name)


def views_of(engine):
    """Returns a dict from levels to their views."""
    return {level: engine.view(level) for level in engine.levels.names()}


def loss_behind(levels, call, is_told, before, behind):
    """Returns the level, word and name of the first loss by a call, or None; before and behind are all views."""
    for level in levels.names():
        if is_told and level == call[0]:
            continue
        maker = call[0] if is_told and levels.above(level, call[0]) else None
        found = Change(level, before[level], behind[level]).first_found(maker)
        if found is not None:
            return (level, *found)
    return None


def first_loss(levels, calls, fault="", limit=40):
    """Returns the first call by which a level finds its nodes, or copies of them, otherwise than it may."""
    check_calls(levels, calls)
    engine = faulty_engine(fault, levels, limit)
    before = views_of(engine)
    for index, call in enumerate(calls):
        level, deed = call
        is_told = answer_to(engine, level, deed)[0] == "told"
        behind = views_of(engine)
        found = loss_behind(levels, call, is_told, before, behind)
        if found is not None:
            return (index, *found)
        before = behind
    return None
