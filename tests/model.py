"""A slow model of the document, written after the definitions alone, and random deeds to compare it with.

It keeps nodes as objects and undoes a deed by bringing back a picture of all that the level had before it,
so it has nothing in common with the way in which the engine works.
"""

import random


class Node:
    def __init__(self, name, kind, text, level, inner=None):
        self.name, self.kind, self.text, self.level, self.inner = name, kind, text, level, inner
        self.children = []

    def child_level(self):
        return self.level if self.inner is None else self.inner


class Refusal(Exception):
    pass


class Model:
    def __init__(self, levels, limit=40):
        self.levels, self.limit = levels, limit
        self.root = Node((), None, None, None, levels.least)
        self.nodes = {}
        self.numbers = {}
        self.undos = {level: [] for level in levels.names()}
        self.redos = {level: [] for level in levels.names()}
        self.logs = {level: [] for level in levels.names()}

    def holder(self, name):
        return self.root if name == () else self.nodes.get(name)

    def parent(self, node):
        for other in [self.root, *self.nodes.values()]:
            if any(child is node for child in other.children):
                return other
        return None

    def is_there(self, node):
        parent = self.parent(node)
        if parent is None:
            return False
        return parent.inner is not None or self.is_there(parent)

    def seen(self, level):
        return [node for node in self.nodes.values() if self.levels.leq(node.level, level) and self.is_there(node)]

    def boxes_seen(self, level):
        found = [node for node in self.nodes.values() if node.inner and self.levels.leq(node.inner, level)]
        return [self.root, *found]

    def below(self, node, into_boxes):
        found = [node]
        if node.inner is None or into_boxes:
            for child in node.children:
                found.extend(self.below(child, into_boxes))
        return found

    def used(self, level):
        return sum(1 for node in self.nodes.values()
                   if node.level == level and node.name[-1][0] == level and self.is_there(node))

    def picture(self, level):
        rows = {node.name: list(node.children) for node in [self.root, *self.nodes.values()]
                if node.child_level() == level}
        return rows, {node.name: node.text for node in self.nodes.values() if node.level == level}

    def bring_back(self, picture):
        rows, texts = picture
        for name, children in rows.items():
            self.holder(name).children = list(children)
        for name, text in texts.items():
            self.nodes[name].text = text

    def draw(self, level, source=""):
        self.numbers[level, source] = self.numbers.get((level, source), 0) + 1
        return (level, source, self.numbers[level, source])

    def check_node(self, level, name):
        if name not in self.nodes or self.nodes[name] not in self.seen(level):
            raise Refusal("name", name)
        if self.nodes[name].level != level:
            raise Refusal("own", name)
        return self.nodes[name]

    def check_holder(self, level, name, place, without=None):
        holder = self.holder(name)
        open_holders = self.boxes_seen(level) + [node for node in self.seen(level) if node.inner is None]
        if holder is None or holder not in open_holders:
            raise Refusal("name", name)
        if holder.child_level() != level:
            raise Refusal("own", name)
        if not 0 <= place <= len([child for child in holder.children if child is not without]):
            raise Refusal("place", place)
        return holder

    def check_full(self, level, many):
        if self.used(level) + many > self.limit:
            raise Refusal("full", self.limit)

    def check_above(self, level, inner):
        if inner not in self.levels.names() or not self.levels.above(inner, level):
            raise Refusal("above", inner)

    def new(self, mark, *parts):
        node = Node((mark,), *parts)
        self.nodes[node.name] = node
        return node

    def insert(self, level, holder, place, kind, text):
        row = self.check_holder(level, holder, place)
        self.check_full(level, 1)
        node = self.new(self.draw(level), kind, text, level)
        row.children.insert(place, node)
        return node.name

    def pocket(self, level, holder, place, inner, text):
        row = self.check_holder(level, holder, place)
        self.check_above(level, inner)
        self.check_full(level, 1)
        node = self.new(self.draw(level), "pocket", text, level, inner)
        row.children.insert(place, node)
        return node.name

    def change(self, level, name, text):
        node = self.check_node(level, name)
        old, node.text = node.text, text
        return old

    def move(self, level, name, holder, place):
        node = self.check_node(level, name)
        row = self.check_holder(level, holder, place, node)
        if row in self.below(node, False):
            raise Refusal("inside", holder)
        self.parent(node).children.remove(node)
        row.children.insert(place, node)

    def copy(self, level, name, holder, place):
        node = self.check_node(level, name)
        row = self.check_holder(level, holder, place)
        self.check_full(level, sum(1 for each in self.below(node, True) if each.level == level))
        copied = self.copied(node, self.draw(level))
        row.children.insert(place, copied)
        return copied.name

    def copied(self, node, mark):
        new = Node(node.name + (mark,), node.kind, node.text, node.level, node.inner)
        new.children = [self.copied(child, mark) for child in node.children]
        self.nodes[new.name] = new
        return new

    def box(self, level, inner):
        self.check_above(level, inner)
        return self.new(self.draw(level), "pocket", "", level, inner).name

    def delete(self, level, name):
        node = self.check_node(level, name)
        self.parent(node).children.remove(node)
        return sum(1 for each in self.below(node, True) if each.level == level)

    def typed(self, level, payload, holder, place):
        def size(each):
            return 1 + sum(size(inner) for inner in each[2])

        def make(each):
            node = self.new(self.draw(level), each[0], each[1], level)
            node.children = [make(inner) for inner in each[2]]
            return node

        row = self.check_holder(level, holder, place)
        self.check_full(level, size(payload))
        node = make(payload)
        row.children.insert(place, node)
        return node.name

    def lead(self, level, steps, others, side):
        if not steps[level]:
            raise Refusal("nothing", None)
        step = steps[level].pop()
        others[level].append(step)
        self.bring_back(step[side])
        return step[0]

    def perform(self, level, deed):
        try:
            if deed == ("undo",):
                value = self.lead(level, self.undos, self.redos, 1)
            elif deed == ("redo",):
                value = self.lead(level, self.redos, self.undos, 2)
            else:
                before = self.picture(level)
                value = getattr(self, deed[0])(level, *deed[1:])
                self.undos[level].append((deed[0], before, self.picture(level)))
                self.redos[level] = []
        except Refusal as refusal:
            return ("refused", *refusal.args)
        self.logs[level].append((deed, value))
        return ("told", value)

    def branches(self, node, level):
        if node.inner is not None and not self.levels.leq(node.inner, level):
            return None
        return tuple((child.name, child.kind, child.text, child.inner, self.branches(child, level))
                     for child in node.children)

    def loose(self, level):
        found = [node for node in self.boxes_seen(level)[1:] if not self.is_there(node)]
        return sorted(found, key=lambda node: node.name)

    def attic(self, level):
        return tuple((node.name, node.inner, self.branches(node, level)) for node in self.loose(level))

    def walk(self, level):
        found = []
        for top in [self.root, *self.loose(level)]:
            found.extend(self.walk_below(top, level))
        return found

    def walk_below(self, node, level):
        if node.inner is not None and not self.levels.leq(node.inner, level):
            return []
        return [name for child in node.children for name in [child.name, *self.walk_below(child, level)]]

    def clock(self, level):
        return sum(len(self.logs[each]) for each in self.levels.downs(level))


class Deeds:
    """Random deeds, most of them such that they can be done."""

    def __init__(self, seed, levels):
        self.random, self.levels = random.Random(seed), levels

    def payload(self, deep):
        many = self.random.randint(0, 2) if deep else 0
        return (self.random.choice("abc"), self.random.choice("xyz"),
                tuple(self.payload(deep - 1) for _ in range(many)))

    def name(self, model, level, own=True):
        names = list(model.nodes)
        if own:
            names = [name for name in names if model.nodes[name].level == level] or names
        return self.random.choice(names) if names else ()

    def holder(self, model, level):
        names = [node.name for node in [model.root, *model.nodes.values()] if node.child_level() == level]
        if not names or self.random.random() < 0.1:
            names = [(), *model.nodes]
        return self.random.choice(names)

    def deed(self, model, level):
        own = self.random.random() < 0.9
        holder, name = self.holder(model, level), self.name(model, level, own)
        held = model.holder(holder)
        place = self.random.randint(0, len(held.children) if held else 0)
        if self.random.random() < 0.05:
            place = self.random.choice([-1, place + 1, 10 ** 20])
        inner = self.random.choice([*self.levels.ups(level), *self.levels.names(), "none"])
        text = self.random.choice(["", "a", "b", "c"])
        return self.random.choice([
            ("insert", holder, place, self.random.choice(["line", "item"]), text),
            ("insert", holder, place, "list", text),
            ("pocket", holder, place, inner, text),
            ("pocket", holder, place, self.levels.ups(level)[-1], text),
            ("change", name, text),
            ("move", name, holder, place),
            ("move", name, holder, place),
            ("copy", name, holder, place),
            ("box", inner),
            ("delete", name),
            ("typed", self.payload(2), holder, place),
            ("undo",), ("undo",), ("redo",), ("redo",),
        ])


def history(seed, levels, many, limit=40, boxes=()):
    """Returns a random row of calls (level, deed), with what the model answers to them.

    At first the least level makes a loose box of each level in boxes, so that it can begin to work at once.
    """
    model, deeds = Model(levels, limit), Deeds(seed, levels)
    calls = [(levels.least, ("box", inner), model.perform(levels.least, ("box", inner))) for inner in boxes]
    for _ in range(many):
        level = deeds.random.choice(levels.names())
        deed = deeds.deed(model, level)
        calls.append((level, deed, model.perform(level, deed)))
    return calls, model
