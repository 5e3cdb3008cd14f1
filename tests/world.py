"""A server with its users, offline copies of its levels and their home, and random work of all of them.

An action is a tuple: a word, the level that acts, and what belongs to it. What it tells depends on what is
<= this level alone, so an action can be done again in a world in which other levels never worked.
"""

import random

from busy import Busy
from maskededits.errors import BadRecords, InvalidEdit, InvalidLevel, InvalidText, NoOffer, NoRight, Refused, SameUser
from maskededits.replicas import Copy, Home, base_of
from maskededits.server import Server
from maskededits.texts import format_view

TOLD_ERRORS = (BadRecords, InvalidEdit, InvalidLevel, InvalidText, NoOffer, NoRight, SameUser)
USERS = ("ann", "bob")


class World:
    def __init__(self, levels, limit=40):
        self.levels = levels
        self.server = Server(levels, {user: levels.names() for user in USERS}, limit=limit)
        self.engine = self.server.engine
        self.sessions = {(user, level): self.server.session(user, level) for user in USERS for level in levels.names()}
        self.copies = {}
        self.home = Home(self.engine)

    def do(self, action):
        """Does an action and returns what is told."""
        try:
            return ("done", getattr(self, "do_" + action[0])(*action[1:]))
        except Refused as error:
            return ("refused", error.word, error.value)
        except TOLD_ERRORS as error:
            return (type(error).__name__, error.value)

    def do_call(self, level, deed):
        return self.sessions["ann", level].call(deed)

    def do_typed(self, level, deed):
        """Stands for an approved offer where the level that has offered it never worked."""
        return self.engine.perform(level, deed)

    def do_edit(self, level, text):
        return self.sessions["ann", level].edit(text)

    def do_offer(self, level, *parts):
        return self.sessions["ann", level].offer(*parts)

    def do_approve(self, level, user, number):
        return self.sessions[user, level].approve(number)

    def do_withdraw(self, level, user, number):
        return self.sessions[user, level].withdraw(number), self.sessions[user, level].open_offers()

    def do_fork(self, level, source):
        self.copies[level] = Copy(self.levels, base_of(self.engine, level), level, source, limit=self.engine.limit)
        return self.copies[level].view().tree()

    def do_offline(self, level, deed):
        return self.copies[level].perform(deed), self.copies[level].view().attic()

    def do_merge(self, level, lower):
        told = self.copies[level].merge(self.copies[lower])
        return told, [(record.mark, self.copies[level].answer(record.mark)) for record in self.copies[level].records()]

    def do_home(self, level):
        return self.home.take(self.copies[level])


def changed_text(chance, view, level):
    """Returns the text of a view in which some lines are changed."""
    lines = format_view(view).split("\n")
    if lines == [""]:
        lines = []
    for _ in range(chance.randint(1, 3)):
        at = chance.randint(0, len(lines))
        depth = chance.choice([0, 0, 1, 2])
        act = chance.random()
        if act < 0.4:
            lines.insert(at, "  " * depth + 'line - "n"')
        elif lines and at < len(lines):
            if act < 0.6:
                lines[at] = lines[at].replace('"', '"e', 1)
            elif act < 0.8:
                line = lines.pop(at)
                lines.insert(chance.randint(0, len(lines)), line)
            elif lines[at].startswith("  ") is False and level in lines[at]:
                lines.pop(at)
    return "\n".join(lines)


class Work:
    """Random actions in a world; some of them cannot be done, but all of them tell something."""

    def __init__(self, seed, world):
        self.chance, self.world = random.Random(seed), world
        self.busy = Busy(seed + 1, world.engine)
        self.sources = 0

    def action(self):
        level, at = self.chance.choice(self.world.levels.names()), self.chance.random()
        if at < 0.42:
            return ("call", level, self.call(level))
        if at < 0.52:
            return ("edit", level, changed_text(self.chance, self.world.engine.view(level), level))
        if at < 0.68:
            return self.release(level)
        return self.offline(level)

    def call(self, level):
        deed = self.busy.call(level)
        # A typed deed stands in the log as an approved offer does.
        return ("undo",) if deed is not None and deed[0] == "typed" else deed

    def release(self, level):
        lower = [each for each in self.world.levels.downs(level) if each != level]
        numbers = [row[0] for row in self.world.sessions["ann", level].open_offers()]
        if not lower or self.chance.random() < (0.7 if numbers else 0.1):
            word = self.chance.choice(["approve", "approve", "approve", "withdraw"])
            user = self.chance.choice(["bob", "bob", "bob", "ann"])
            return (word, level, user, self.chance.choice([*numbers, 1]))
        view, to = self.world.engine.view(level), self.chance.choice(lower)
        names = [name for name in view.walk() if view[name][2] == level and view[name][3] is None]
        return ("offer", level, self.chance.choice([*names, self.busy.node(level)]), to, *self.busy.spot(to))

    def offline(self, level):
        copies = self.world.copies
        if level not in copies or self.chance.random() < 0.06:
            self.sources += 1
            return ("fork", level, "s" + "abcdefghijklmnopqrstuvwxyz"[self.sources // 26] + "abcdefghijklmnopqrstuvwxyz"[self.sources % 26])
        at = self.chance.random()
        if at < 0.55:
            return ("offline", level, Busy(self.chance.random(), copies[level].engine).offline(level))
        lower = [each for each in self.world.levels.downs(level) if each != level and each in copies]
        if at < 0.7 and lower:
            return ("merge", level, self.chance.choice(lower))
        return ("home", level)


def beginning(levels):
    """Returns actions by which each level has a box with a line in it."""
    calls = [("call", levels.least, ("pocket", (), 0, level, level[:1])) for level in levels.names()[1:]]
    lines = [("call", level, ("insert", ((levels.least, "", at + 1),), 0, "line", "x")) for at, level in enumerate(levels.names()[1:])]
    return [*calls, *lines]


def worked(seed, levels, many, limit=40):
    """Returns a world, the actions done in it and what was told."""
    world, actions, told = World(levels, limit), [], []
    work = Work(seed, world)
    first = beginning(levels) if seed % 3 else []
    for index in range(len(first) + many):
        action = first[index] if index < len(first) else work.action()
        actions.append(action)
        told.append(world.do(action))
    return world, actions, told


def targets(actions, told):
    """Returns for each action the lower level and the deed that an approval has entered, or None."""
    offers, found = {}, []
    for action, answer in zip(actions, told):
        entered = None
        if action[0] == "offer" and answer[0] == "done":
            offers[action[1], answer[1]] = action
        if action[0] == "approve" and answer[0] == "done":
            entered = offers[action[1], action[3]]
        found.append(entered)
    return found
