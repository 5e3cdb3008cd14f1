"""Moments, and what a level can know of the past."""

from maskededits.engine import Engine
from maskededits.errors import InvalidLevel, InvalidMoment, InvalidNumber, NotSeen
from maskededits.histories import History
from maskededits.levels import is_word
from maskededits.names import is_integer, is_name
from maskededits.queries import compare_views
from maskededits.replays import mark_told, replayed


def are_counts(thing):
    """Tells whether a value is a dict from words to integers of at least 0."""
    if not isinstance(thing, dict):
        return False
    return all([is_word(word) and is_integer(thing[word]) and thing[word] >= 0 for word in thing])


class Moment:
    """How many deeds of each level were done."""

    def __init__(self, counts):
        if not are_counts(counts):
            raise InvalidMoment(counts)
        self.counts = {level: counts[level] for level in counts if counts[level] > 0}

    def __getitem__(self, level):
        return self.counts.get(level, 0) if isinstance(level, str) else 0

    def __iter__(self):
        raise TypeError("the numbers of a moment are told by by_level()")

    def __and__(self, other):
        if not isinstance(other, Moment):
            raise InvalidMoment(other)
        both = [level for level in self.counts if level in other.counts]
        return Moment({level: min(self.counts[level], other.counts[level]) for level in both})

    def __or__(self, other):
        if not isinstance(other, Moment):
            raise InvalidMoment(other)
        both = [*self.counts, *other.counts]
        return Moment({level: max(self.counts.get(level, 0), other.counts.get(level, 0)) for level in both})

    def __eq__(self, other):
        return isinstance(other, Moment) and self.counts == other.counts

    @property
    def deeds(self):
        """The sum of all numbers."""
        return sum([self.counts[level] for level in self.counts])

    def by_level(self):
        """Returns the numbers above 0."""
        return {level: self.counts[level] for level in self.counts}

    def is_within(self, other):
        """Tells whether no number is greater than that of another moment."""
        if not isinstance(other, Moment):
            raise InvalidMoment(other)
        return all([self.counts[level] <= other.counts.get(level, 0) for level in self.counts])


class Past:
    """What a level can know of what was done up to now."""

    def __init__(self, engine, level):
        engine.levels.check(level)
        self.levels = engine.levels
        self.limit = engine.limit
        self.history = History(engine.levels, level, engine.entries)
        self.level = level
        self.makers = None

    @property
    def start(self):
        """The moment without deeds."""
        return Moment({})

    @property
    def now(self):
        """The last moment."""
        return Moment(self.history.totals())

    def __contains__(self, moment):
        return isinstance(moment, Moment) and self.history.is_moment(moment.counts)

    def check(self, moment):
        """Raises InvalidMoment if a value is not a moment of the level."""
        if moment not in self:
            raise InvalidMoment(moment)

    def entries_before(self, moment):
        """Returns the entries of a moment, in an order in which they can be done."""
        found = []
        for level, number in self.history.between({}, moment.counts):
            needs, deed, told = self.history.row(level, number)
            found.append((level, deed, told))
        return found

    def view_at(self, moment):
        """Returns the view of the level at a moment."""
        return replayed(self.levels, self.limit, self.entries_before(moment)).view(self.level)

    def __call__(self, moment):
        self.check(moment)
        return self.view_at(moment)

    def records(self, one, other):
        """Yields the records between two moments, each of which leads to a moment."""
        self.check(one)
        self.check(other)
        if not one.is_within(other):
            raise InvalidMoment(other)
        for level, number in self.history.between(one.counts, other.counts):
            needs, deed, told = self.history.row(level, number)
            yield (level, number, {low: needs[low] for low in needs}, deed)

    def cuts(self):
        """Yields the moments from start to now, record by record."""
        counts = {}
        yield Moment(counts)
        for level, number in self.history.between({}, self.history.totals()):
            counts = {**counts, level: number}
            yield Moment(counts)

    def check_deed(self, level, number):
        """Raises InvalidLevel or InvalidNumber if there is no such deed."""
        if not self.levels.has(level) or level not in self.history.rows:
            raise InvalidLevel(level)
        if not is_integer(number) or not 1 <= number <= len(self.history.rows[level]):
            raise InvalidNumber(number)

    def first_with(self, level, number):
        """Returns the moment that has a deed and is within all others that have it."""
        self.check_deed(level, number)
        return Moment(self.history.raised({level: number}))

    def last_without(self, level, number):
        """Returns the moment that does not have a deed and within which are all others that do not."""
        self.check_deed(level, number)
        return Moment(self.history.lowered({**self.history.totals(), level: number - 1}))

    def found_makers(self):
        """Returns a dict from names of nodes to the level and the number of the deed that made them."""
        engine = Engine(self.levels, limit=self.limit)
        makers = {}
        for level, number in self.history.between({}, self.history.totals()):
            needs, deed, told = self.history.row(level, number)
            engine.perform(level, deed, mark=mark_told(deed, told))
            # Nodes are never dropped, so the new ones stand behind all others.
            for name in list(engine.document.nodes)[len(makers):]:
                makers[name] = (level, number)
        return makers

    def made(self, name):
        """Returns the first moment with the deed that made a node."""
        if self.makers is None:
            self.makers = self.found_makers()
        if not is_name(name) or name not in self.makers:
            raise NotSeen(name)
        level, number = self.makers[name]
        return self.first_with(level, number)

    def changes(self, one, other):
        """Returns the difference of the views at two moments."""
        self.check(one)
        self.check(other)
        return compare_views(self.view_at(one), self.view_at(other))
