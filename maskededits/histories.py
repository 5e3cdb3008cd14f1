"""The order of accepted deeds, as far as one level can know it.

A moment stands here as a dict from levels to numbers of deeds; a level that it lacks has the number 0.
"""


class History:
    """The accepted deeds of a level and of those below it: of each level its rows in order.

    A row is a tuple of the needs of a deed, the deed and what was told.
    """

    def __init__(self, levels, level, entries):
        self.shown = levels.downs(level)
        self.pairs = [(low, high) for high in self.shown for low in self.shown if levels.above(high, low)]
        self.rows = {each: [] for each in self.shown}
        for each, deed, told in entries:
            if each in self.rows:
                needs = {low: len(self.rows[low]) for low, high in self.pairs if high == each}
                self.rows[each].append((needs, deed, told))

    def totals(self):
        """Returns the moment with all deeds."""
        return {level: len(self.rows[level]) for level in self.shown}

    def row(self, level, number):
        """Returns the row of a deed of a level; its number counts from 1."""
        return self.rows[level][number - 1]

    def need(self, level, number, low):
        """Returns how many deeds of a lower level a deed stands behind."""
        return self.rows[level][number - 1][0][low]

    def is_moment(self, counts):
        """Tells whether numbers of deeds cut no deed off from what it saw."""
        for level in counts:
            if level not in self.rows or counts[level] > len(self.rows[level]):
                return False
        for low, high in self.pairs:
            number = counts.get(high, 0)
            if number > 0 and counts.get(low, 0) < self.need(high, number, low):
                return False
            if number < len(self.rows[high]) and counts.get(low, 0) > self.need(high, number + 1, low):
                return False
        return True

    def can_come(self, counts, level):
        """Tells whether the next deed of a level leads from a moment, told with all levels, to a moment."""
        number = counts[level] + 1
        for low, high in self.pairs:
            if high == level and counts[low] < self.need(level, number, low):
                return False
            behind = counts[high] + 1
            if low == level and behind <= len(self.rows[high]) and number > self.need(high, behind, level):
                return False
        return True

    def between(self, one, other):
        """Returns pairs of a level and a number: the deeds that lead from a moment to a later one, in order."""
        found = []
        counts = {level: one.get(level, 0) for level in self.shown}
        many = sum([other.get(level, 0) - counts[level] for level in self.shown])
        while len(found) < many:
            coming = [level for level in self.shown if counts[level] < other.get(level, 0)]
            level = [each for each in coming if self.can_come(counts, each)][0]
            counts[level] += 1
            found.append((level, counts[level]))
        return found

    def raised(self, counts):
        """Returns the first moment that has at least some numbers of deeds."""
        counts = {level: counts.get(level, 0) for level in self.shown}
        while not self.is_moment(counts):
            for low, high in self.pairs:
                number = counts[high]
                if number > 0:
                    counts[low] = max(counts[low], self.need(high, number, low))
                if number < len(self.rows[high]) and counts[low] > self.need(high, number + 1, low):
                    counts[high] += 1
        return counts

    def lowered(self, counts):
        """Returns the last moment that has at most some numbers of deeds."""
        counts = {level: counts.get(level, 0) for level in self.shown}
        while not self.is_moment(counts):
            for low, high in self.pairs:
                number = counts[high]
                if number > 0 and counts[low] < self.need(high, number, low):
                    counts[high] -= 1
                elif number < len(self.rows[high]):
                    counts[low] = min(counts[low], self.need(high, number + 1, low))
        return counts


def ordered_entries(levels, level, entries):
    """Returns the entries of a level and of those below it, in an order that depends on them alone."""
    history = History(levels, level, entries)
    found = []
    for each, number in history.between({}, history.totals()):
        needs, deed, told = history.row(each, number)
        found.append((each, deed, told))
    return tuple(found)
