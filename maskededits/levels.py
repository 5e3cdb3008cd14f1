"""Levels: different words in an order, one of them below all others."""

from maskededits.errors import InvalidLevel, InvalidLevels

LETTERS = "abcdefghijklmnopqrstuvwxyz"
LONGEST_WORD = 8
MOST_LEVELS = 8


def is_word(thing):
    """Tells whether a value is a text of one to eight small letters."""
    if not isinstance(thing, str) or not 1 <= len(thing) <= LONGEST_WORD:
        return False
    return all([sign in LETTERS for sign in thing])


def are_names(thing):
    """Tells whether a value is a list or tuple of one to eight different words."""
    if not isinstance(thing, (list, tuple)) or not 1 <= len(thing) <= MOST_LEVELS:
        return False
    return all([is_word(word) for word in thing]) and len(set(thing)) == len(thing)


def is_pair(thing, order):
    """Tells whether a value is a tuple of two of the words, the first of them standing ahead."""
    if not isinstance(thing, tuple) or len(thing) != 2:
        return False
    # A value of another kind may claim to be equal to a word, so its kind is asked first.
    if not all([is_word(word) and word in order for word in thing]):
        return False
    return order.index(thing[0]) < order.index(thing[1])


def are_pairs(thing, order):
    """Tells whether a value is a list or tuple of pairs of the words."""
    return isinstance(thing, (list, tuple)) and all([is_pair(pair, order) for pair in thing])


def levels_below(order, pairs):
    """Returns a dict from each word to all that are below it or equal to it, in order."""
    below = {}
    for level in order:
        # The low one of a pair stands ahead, so what is below it is known here already.
        found = [order[0], level]
        for low, high in pairs:
            if high == level:
                found.extend(below[low])
        below[level] = [word for word in order if word in found]
    return below


class Levels:
    """The levels of a document in their order."""

    def __init__(self, names, pairs=()):
        if not are_names(names):
            raise InvalidLevels(names)
        order = list(names)
        if not are_pairs(pairs, order):
            raise InvalidLevels(pairs)
        self.order = order
        self.below = levels_below(order, pairs)

    @property
    def least(self):
        """The level that is below all others."""
        return self.order[0]

    def names(self):
        """Returns the levels in their order."""
        return list(self.order)

    def __len__(self):
        return len(self.order)

    def __eq__(self, other):
        return isinstance(other, Levels) and self.order == other.order and self.below == other.below

    def has(self, thing):
        """Tells whether a value is one of the levels."""
        return isinstance(thing, str) and thing in self.below

    def check(self, level):
        """Raises InvalidLevel if a value is not one of the levels."""
        if not self.has(level):
            raise InvalidLevel(level)

    def leq(self, one, other):
        """Tells whether one is below the other or equal to it."""
        self.check(one)
        self.check(other)
        return one in self.below[other]

    def above(self, one, other):
        """Tells whether one is strictly above the other."""
        self.check(one)
        self.check(other)
        return one != other and other in self.below[one]

    def downs(self, level):
        """Returns all levels that are below a level or equal to it, in order."""
        self.check(level)
        return list(self.below[level])

    def ups(self, level):
        """Returns all levels that are above a level or equal to it, in order."""
        self.check(level)
        return [word for word in self.order if level in self.below[word]]

    def meet(self, one, other):
        """Returns the greatest level that is below both or equal to them, or None."""
        self.check(one)
        self.check(other)
        common = [word for word in self.order if word in self.below[one] and word in self.below[other]]
        for level in common:
            if all([word in self.below[level] for word in common]):
                return level
        return None

    def join(self, one, other):
        """Returns the least level that is above both or equal to them, or None."""
        self.check(one)
        self.check(other)
        common = [word for word in self.order if one in self.below[word] and other in self.below[word]]
        for level in common:
            if all([level in self.below[word] for word in common]):
                return level
        return None
