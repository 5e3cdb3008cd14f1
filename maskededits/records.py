"""Records of deeds that were done offline, their order, and doing them again."""

from maskededits.engine import Engine
from maskededits.errors import BadRecords
from maskededits.forms import is_deed


class Record:
    """A deed that was accepted: its mark and stamp, the record it follows, the act and the first mark it drew."""

    def __init__(self, mark, stamp, after, act, first):
        self.mark = mark
        self.stamp = stamp
        self.after = after
        self.act = act
        self.first = first

    def __eq__(self, other):
        if not isinstance(other, Record) or self.mark != other.mark or self.stamp != other.stamp:
            return False
        return self.after == other.after and self.act == other.act and self.first == other.first


def records_by_mark(records):
    """Returns a dict from marks to records, each once."""
    found = {}
    for record in records:
        if found.setdefault(record.mark, record) != record:
            raise BadRecords(record.mark)
    return found


def follows_well(levels, record, found):
    """Tells whether what a record follows is a given record of a level strictly below, or none."""
    if record.after is None:
        return True
    return record.after in found and levels.above(record.mark[0], record.after[0])


def followers_in_order(levels, records):
    """Returns records that follow the same one, in their order."""
    order = levels.names()
    rows = []
    for record in records:
        level, source, number = record.mark
        # The levels that stand last come first.
        rows.append((len(order) - order.index(level), record.stamp, source, number, record.mark))
    return [row[4] for row in sorted(rows)]


def records_in_order(levels, records):
    """Returns the records, each once, in an order that does not change when others are added."""
    found = records_by_mark(records)
    followers = {}
    for mark in found:
        if not follows_well(levels, found[mark], found):
            raise BadRecords(mark)
        followers.setdefault(found[mark].after, []).append(found[mark])
    rows = []
    waiting = followers_in_order(levels, followers.get(None, []))[::-1]
    while waiting:
        mark = waiting.pop()
        rows.append(found[mark])
        # The last one that waits is the next one that is taken.
        waiting.extend(followers_in_order(levels, followers.get(mark, []))[::-1])
    return rows


def given_mark(record):
    """Returns the mark that is given to the deed of a record, or None if the deed draws it."""
    return None if record.first is None or record.first[1] == "" else record.first


def record_done(engine, record):
    """Does the deed of a record and returns the answer."""
    return engine.perform(record.mark[0], record.act, mark=given_mark(record))


def play_record(engine, record):
    """Does the deed of a record and returns the answer; of a pocket that is refused the box is made."""
    answer = record_done(engine, record)
    if answer[0] == "refused" and is_deed(record.act) and record.act[0] == "pocket":
        engine.perform(record.mark[0], ("box", record.act[3]), mark=given_mark(record))
    return answer


def played_records(levels, records, *, limit=40):
    """Returns an engine in which the deeds of records were done, and a dict from marks to answers."""
    rows = records_in_order(levels, records)
    engine = Engine(levels, limit=limit)
    return engine, {record.mark: play_record(engine, record) for record in rows}
