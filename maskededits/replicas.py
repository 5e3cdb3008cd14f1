"""Copies of an engine, each of one level, in which deeds are done offline, and their way home."""

from maskededits.errors import BadRecords, InvalidLevel, InvalidName
from maskededits.forms import is_deed, marks_made
from maskededits.histories import ordered_entries
from maskededits.levels import is_word
from maskededits.names import is_mark
from maskededits.records import Record, play_record, records_in_order
from maskededits.replays import replayed

OFFLINE = ("insert", "pocket", "change", "move", "copy", "delete")


def base_of(engine, level):
    """Returns the accepted deeds of a level and of those below it, as a base of copies."""
    return ordered_entries(engine.levels, level, engine.entries)


class Copy:
    """A copy of a level: an engine behind the base and behind all records that are held."""

    def __init__(self, levels, base, level, source, *, limit=40):
        levels.check(level)
        if not is_word(source):
            raise InvalidName(source)
        self.levels = levels
        # Two bases with the same deeds are the same, though a higher level may have told them in another order.
        self.base = ordered_entries(levels, level, base)
        self.level = level
        self.source = source
        self.limit = limit
        self.ground = replayed(levels, limit, self.base)
        if any([mark[1] == source for mark in self.ground.document.drawn]):
            raise InvalidName(source)
        self.engine = self.ground.twin()
        self.held = {}
        self.answers = {}

    def last_number(self):
        """Returns the last number of the marks of nodes of the level and source."""
        # A record that is refused now keeps the mark that it drew.
        numbers = [record.first[2] for record in self.own_records() if record.first is not None]
        return max(numbers, default=0)

    def own_records(self):
        """Returns the records of the level and source."""
        return [self.held[mark] for mark in self.held if mark[:2] == (self.level, self.source)]

    def perform(self, deed):
        """Does a deed of the level and returns the answer; a deed that is accepted is a record."""
        if not is_deed(deed) or deed[0] not in OFFLINE:
            return ("refused", "deed", deed)
        first = (self.level, self.source, self.last_number() + 1) if marks_made(deed) else None
        answer = self.engine.perform(self.level, deed, mark=first)
        if answer[0] == "told":
            record = self.next_record(deed, first)
            # What a level does stands behind all that it holds, so it is the last one in the order.
            self.held[record.mark] = record
            self.answers[record.mark] = answer
        return answer

    def next_record(self, deed, first):
        """Returns the record of a deed that is done now."""
        number = 1 + max([record.mark[2] for record in self.own_records()], default=0)
        stamp = 1 + max([self.held[mark].stamp for mark in self.held], default=0)
        lower = [mark for mark in self.held if mark[0] != self.level]
        after = lower[-1] if lower else None
        return Record((self.level, self.source, number), stamp, after, deed, first)

    def records(self):
        """Yields the records in their order."""
        yield from [self.held[mark] for mark in self.held]

    def answer(self, mark):
        """Returns what a record is answered now."""
        if mark not in self:
            raise BadRecords(mark)
        return self.answers[mark]

    def view(self):
        """Returns the view of the level."""
        return self.engine.view(self.level)

    def __contains__(self, mark):
        return is_mark(mark) and mark in self.held

    def __len__(self):
        return len(self.held)

    def __eq__(self, other):
        if not isinstance(other, Copy):
            return False
        return self.base == other.base and self.held == other.held and self.limit == other.limit

    def check_other(self, other):
        """Raises an error if another copy is not one whose records can be taken."""
        if not self.levels.leq(other.level, self.level):
            raise InvalidLevel(other.level)
        if self.levels != other.levels or self.limit != other.limit:
            raise BadRecords(other.source)
        if ordered_entries(self.levels, other.level, self.base) != other.base:
            raise BadRecords(other.source)

    def merge(self, other):
        """Takes the records of another copy; returns the marks of those held before that are answered otherwise."""
        self.check_other(other)
        before = self.answers
        # Own records stand first, so what is bad is told in the order of the other copy.
        rows = records_in_order(self.levels, [*list(self.held.values()), *list(other.held.values())])
        engine = self.ground.twin()
        answers = {record.mark: play_record(engine, record) for record in rows}
        self.engine = engine
        self.held = {record.mark: record for record in rows}
        self.answers = answers
        return [mark for mark in answers if mark in before and before[mark] != answers[mark]]

    def joined(self, other):
        """Returns a copy like this one that has merged another one."""
        copy = self.twin()
        copy.merge(other)
        return copy

    def twin(self):
        """Returns an equal copy that goes on by itself."""
        other = Copy(self.levels, self.base, self.level, self.source, limit=self.limit)
        other.engine = self.engine.twin()
        other.held = {mark: self.held[mark] for mark in self.held}
        other.answers = {mark: self.answers[mark] for mark in self.answers}
        return other


class Home:
    """The way of offline records home into an engine."""

    def __init__(self, engine, *, taken=()):
        self.engine = engine
        # Of marks that are handed in the records are not known.
        self.taken = {mark: None for mark in taken}

    def take(self, copy):
        """Does the records of the level of a copy as new deeds; returns their marks and answers."""
        rows = list(copy.records())
        for record in rows:
            known = self.taken.get(record.mark)
            if known is not None and known != record:
                raise BadRecords(record.mark)
        told = []
        for record in rows:
            if record.mark in self.taken:
                continue
            if record.mark[0] != copy.level:
                break
            told.append((record.mark, play_record(self.engine, record)))
            self.taken[record.mark] = record
        return told

    def marks(self):
        """Returns the marks of the records that count as taken, in the order in which they were taken."""
        return list(self.taken)

    def __contains__(self, mark):
        return is_mark(mark) and mark in self.taken

    def __len__(self):
        return len(self.taken)
