"""Journals: of each level the records of its accepted deeds, from which an engine can be recovered."""

from maskededits.engine import Engine
from maskededits.errors import BadRecords, InvalidNumber
from maskededits.forms import is_deed
from maskededits.names import is_integer
from maskededits.records import Record, record_done
from maskededits.replays import mark_told


class Journals:
    """One journal for each level; all records are kept in one list, in the order in which they were written.

    Beside each record stand its needs: how many records of each level strictly below were written before it.
    """

    def __init__(self, levels, *, limit=40):
        self.levels = levels
        self.limit = limit
        self.rows = []
        self.lengths = {level: 0 for level in levels.names()}
        self.stamps = {level: 0 for level in levels.names()}
        self.followers = {}
        self.all_stand = True

    @classmethod
    def of(cls, engine):
        """Returns the journals of all that an engine has accepted."""
        journals = cls(engine.levels, limit=engine.limit)
        journals.write_all(engine.entries)
        return journals

    def write(self, level, deed, told):
        """Writes the record of a deed that was accepted behind all that is written."""
        self.levels.check(level)
        if not self.all_stand:
            raise BadRecords(level)
        downs = self.levels.downs(level)
        lower = [each for each in downs if each != level]
        mark = (level, "", self.lengths[level] + 1)
        stamp = 1 + max([self.stamps[each] for each in downs])
        first = mark_told(deed, told) if is_deed(deed) else None
        record = Record(mark, stamp, self.last_of(lower), deed, first)
        self.put(record, {each: self.lengths[each] for each in lower})

    def last_of(self, lower):
        """Returns the mark of the last record, in the order of records, of some levels that go down to the least."""
        last = None
        while True:
            # Of those that follow the same one, the level that stands first in the list of levels comes last.
            coming = [self.followers[(last, level)] for level in lower if (last, level) in self.followers]
            if not coming:
                return last
            last = coming[0]

    def put(self, record, needs):
        """Puts a record behind all others of its level, and behind all that are written."""
        level = record.mark[0]
        self.rows.append((record, needs))
        self.lengths[level] += 1
        self.stamps[level] = record.stamp
        self.followers[(record.after, level)] = record.mark

    def write_all(self, rows):
        """Writes the records of several deeds; none if one of the levels is none."""
        entries = list(rows)
        for level, deed, told in entries:
            self.levels.check(level)
        for level, deed, told in entries:
            self.write(level, deed, told)

    def journal(self, level):
        """Yields the records of a level."""
        self.levels.check(level)
        yield from [record for record, needs in self.rows if record.mark[0] == level]

    def __len__(self):
        return len(self.rows)

    def cut(self, lengths):
        """Returns journals with the first records of each level alone, as many as a dict says."""
        kept = {level: lengths.get(level, 0) for level in self.levels.names()}
        for level in kept:
            if not is_integer(kept[level]) or kept[level] < 0:
                raise InvalidNumber(kept[level])
        journals = Journals(self.levels, limit=self.limit)
        for record, needs in list(self.rows):
            level, source, number = record.mark
            if number <= kept[level]:
                journals.put(record, needs)
        journals.all_stand = journals.standing() == journals.lengths
        return journals

    def standing(self):
        """Returns a dict from all levels to the numbers of records that stand."""
        counts = {level: 0 for level in self.levels.names()}
        # What was written before a record stands ahead of it, so it is counted already.
        for record, needs in self.rows:
            level, source, number = record.mark
            if counts[level] == number - 1 and all([counts[each] == needs[each] for each in needs]):
                counts[level] = number
        return counts

    def recovered(self):
        """Returns an engine in which the deeds that stand are done, and a dict from marks to answers."""
        counts = self.standing()
        engine = Engine(self.levels, limit=self.limit)
        answers = {}
        for record, needs in self.rows:
            level, source, number = record.mark
            if number <= counts[level]:
                answers[record.mark] = record_done(engine, record)
        return engine, answers
