"""Finding leaks: what a level is told in calls, beside what it is due."""

from maskededits.engine import Engine
from maskededits.faults import faulty_engine
from maskededits.forms import word_of

ASKING = ("look", "clock", "room", "log")


def answer_to(engine, level, deed):
    """Performs a call, which may only ask, and returns the answer."""
    engine.levels.check(level)
    word = word_of(deed)
    if word not in ASKING or len(deed) != 1:
        return engine.perform(level, deed)
    if word == "look":
        view = engine.view(level)
        return ("told", (view.tree(), view.attic()))
    if word == "clock":
        return ("told", engine.clock(level))
    if word == "room":
        return ("told", engine.room(level))
    return ("told", tuple(engine.log(level)))


def check_calls(levels, calls):
    """Raises InvalidLevel with the first level of calls, or of the entries of a log, that is none."""
    for call in calls:
        levels.check(call[0])


def shortened_calls(levels, calls, level):
    """Returns the indexes of the calls whose level is a level or below it."""
    check_calls(levels, calls)
    downs = levels.downs(level)
    return [index for index, call in enumerate(calls) if call[0] in downs]


def answers_to(levels, calls, fault="", limit=40):
    """Returns the answers of a new engine with a fault to calls, one after another."""
    check_calls(levels, calls)
    engine = faulty_engine(fault, levels, limit)
    return [answer_to(engine, level, deed) for level, deed in calls]


def first_leak(levels, calls, fault="", limit=40):
    """Returns the first call that is answered otherwise if a level plays what is not above it alone."""
    check_calls(levels, calls)
    whole = faulty_engine(fault, levels, limit)
    plays = {level: faulty_engine(fault, levels, limit) for level in levels.names()}
    for index, (level, deed) in enumerate(calls):
        told = answer_to(whole, level, deed)
        answers = [(each, answer_to(plays[each], level, deed)) for each in levels.ups(level)]
        for each, alone in answers:
            if alone != told:
                return (index, each, told, alone)
    return None


def kinds_of(thing):
    """Returns of which kinds a value is, as a tuple of True and False."""
    return (
        thing is None,
        isinstance(thing, bool),
        isinstance(thing, int),
        isinstance(thing, str),
        isinstance(thing, bytes),
        isinstance(thing, tuple),
        isinstance(thing, list),
        isinstance(thing, dict),
    )


def is_same(one, other):
    """Tells whether two answers are the same; True and False are no numbers."""
    waiting = [(one, other)]
    while waiting:
        left, right = waiting.pop()
        # A value of another kind may claim to be equal to a number or a word, so its kind is asked first.
        if kinds_of(left) != kinds_of(right):
            return False
        if isinstance(left, tuple) and len(left) == len(right):
            waiting.extend(list(zip(left, right)))
        # In tuples, because a refused value of any kind is the same as itself, whatever it is equal to.
        elif (left,) != (right,):
            return False
    return True


def first_wrong(levels, log, limit=40):
    """Returns the first entry of a log whose answer is not the one that its level is due."""
    check_calls(levels, log)
    plays = {level: Engine(levels, limit=limit) for level in levels.names()}
    for index, (level, deed, answer) in enumerate(log):
        answers = {each: answer_to(plays[each], level, deed) for each in levels.ups(level)}
        due = answers[level]
        if not is_same(answer, due):
            return (index, answer, due)
    return None
