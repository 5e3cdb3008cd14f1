"""Steps: what a deed has changed of its level, so that it can be undone and done again."""


class Step:
    """The change of one deed of a level: the texts and the rows of held names, each before and behind it."""

    def __init__(self, word, level, texts, rows, grown):
        self.word = word
        self.level = level
        self.texts = {name: texts[name] for name in texts}
        self.rows = {holder: rows[holder] for holder in rows}
        self.grown = grown

    def summary(self):
        """Returns a value that is equal for steps of one word that lead back and forth to the same."""
        return (self.word, changed_pairs(self.texts), changed_pairs(self.rows))


def changed_pairs(table):
    """Returns what differs before and behind, as a tuple in ascending order."""
    return tuple([(name, *table[name]) for name in sorted(table) if table[name][0] != table[name][1]])


def chained_pairs(first, second):
    """Returns a dict of what was before the first change and what is behind the second one."""
    pairs = {name: first[name] for name in first}
    for name in second:
        before = pairs[name][0] if name in pairs else second[name][0]
        pairs[name] = (before, second[name][1])
    return pairs


def joined_step(word, level, steps):
    """Returns one step of a level that changes what several of its steps change, one after another."""
    texts = {}
    rows = {}
    for step in steps:
        texts = chained_pairs(texts, step.texts)
        rows = chained_pairs(rows, step.rows)
    return Step(word, level, texts, rows, sum([step.grown for step in steps]))
