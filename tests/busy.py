"""Random calls that a level makes after looking at what it sees, so that most of them are told."""

import random

from maskededits.checker import answer_to
from maskededits.engine import Engine
from maskededits.levels import Levels

ORDERS = [
    Levels(["low", "high"]),
    Levels(["low", "east", "west", "top"], [("east", "top"), ("west", "top")]),
    Levels(["low", "mid", "high"], [("mid", "high")]),
    Levels(["a", "b", "c", "d"], [("b", "c")]),
    Levels(["one"]),
    Levels(["a", "b", "c", "d", "e"], [("b", "d"), ("c", "d"), ("d", "e")]),
    Levels(["a", "b", "c", "d"], [("b", "c"), ("c", "d")]),
]
ASKING = [("look",), ("clock",), ("room",), ("log",)]
PAYLOAD = ("list", "t", (("line", "u", ()), ("line", "v", ())))
SCRIPTS = [
    "", 'tell size(find("pocket"));', "tell 1; tell",
    'for p in find("pocket") { try { copy(p, node("/"), 0); } }',
    'for p in find("pocket") { try { q = copy(p, holder(p), 0); r = copy(q, holder(p), 0); delete(q); tell r; } }',
    'x = insert(node("/"), 0, "list", "l"); for p in find("pocket") { try { move(p, x, 0); } }'
    ' y = copy(x, node("/"), 0); copy(y, x, 0);',
    'for n in find("line") { try { change(n, text(n) + "x"); } else { tell text(n); } }',
    'for n in find("line") { try { delete(n); } else { tell n; } }',
    "n = 0; while n < 70 { n = n + 1; } tell n;",
]


def holders_of(view, level):
    """Returns the names of the boxes and nodes of a view that may hold nodes of a level."""
    found = []
    for name in [(), *view.loose, *view.walk()]:
        if view.holds(name) is None:
            continue
        if name in view:
            own = view[name][3] or view[name][2]
        else:
            own = view.loose[name] if name else view.order[0]
        if own == level:
            found.append(name)
    return found


class Busy:
    """A chance, and an engine that is looked at for what may be called."""

    def __init__(self, seed, engine):
        self.chance, self.engine = random.Random(seed), engine

    def spot(self, level):
        view = self.engine.view(level)
        holder = self.chance.choice(holders_of(view, level) or [()])
        return holder, self.chance.randint(0, len(view.holds(holder)))

    def node(self, level):
        view = self.engine.view(level)
        own = [name for name in view.walk() if view[name][2] == level]
        pockets = [name for name in own if view[name][3] is not None]
        if pockets and self.chance.random() < 0.6:
            return self.chance.choice(pockets)
        return self.chance.choice(own or [((level, "", 1),)])

    def any_node(self):
        """Returns the name of any node that was ever made."""
        return self.chance.choice(list(self.engine.document.nodes) or [()])

    def making(self, level):
        """Returns a deed that makes a node."""
        ups = [each for each in self.engine.levels.ups(level) if each != level]
        deeds = [("insert", *self.spot(level), self.chance.choice(["line", "list"]), self.chance.choice("abc"))] * 3
        deeds.append(("copy", self.node(level), *self.spot(level)))
        if ups:
            deeds += [("pocket", *self.spot(level), self.chance.choice(ups), self.chance.choice("pqr"))] * 2
            if self.chance.random() < 0.3:
                deeds.append(("box", self.chance.choice(ups)))
        return self.chance.choice(deeds)

    def offline(self, level):
        """Returns a deed that copies do, too."""
        name = self.any_node() if self.chance.random() < 0.08 else self.node(level)
        return self.chance.choice([
            self.making(level), self.making(level), ("copy", name, *self.spot(level)), ("delete", name),
            ("move", name, *self.spot(level)), ("change", name, self.chance.choice("xyz"))])

    def call(self, level):
        """Returns a call of a level, asking or not."""
        at = self.chance.random()
        if at < 0.08:
            return self.chance.choice(ASKING)
        if at < 0.16:
            return ("script", self.chance.choice(SCRIPTS))
        if at < 0.30:
            return self.chance.choice([("undo",), ("undo",), ("redo",)])
        if at < 0.33:
            return ("typed", PAYLOAD, *self.spot(level))
        if at < 0.35:
            return self.chance.choice([None, ("undo", 1), ("pocket", (), 0, level, ""), ("insert", (), -1, "line", "")])
        return self.offline(level)


def busy_calls(seed, levels, many, limit=40):
    """Returns a random row of calls, and an engine behind them."""
    busy = Busy(seed, Engine(levels, limit=limit))
    calls = []
    for _ in range(many):
        level = busy.chance.choice(levels.names())
        deed = busy.call(level)
        answer_to(busy.engine, level, deed)
        calls.append((level, deed))
    return calls, busy.engine


def busy_cases(many, length):
    """Yields seeds, levels, limits and random rows of calls."""
    for seed in range(many):
        levels, limit = ORDERS[seed % len(ORDERS)], (40, 12, 6, 40)[seed % 4]
        yield seed, levels, limit, busy_calls(seed, levels, length, limit)[0]
