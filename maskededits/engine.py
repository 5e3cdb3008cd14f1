"""The engine, which does the deeds of all levels, and desks, at which scripts work."""

from maskededits.deeds import prepared
from maskededits.document import AGAIN, BACK, Document
from maskededits.errors import InvalidName, InvalidNumber, InvalidScript, Refused
from maskededits.forms import is_deed, marks_made
from maskededits.names import is_integer, is_mark, is_source
from maskededits.running import run_script
from maskededits.steps import joined_step
from maskededits.syntax import Script
from maskededits.views import view_of

GREATEST_LIMIT = 60
GREATEST_GIVEN = 10 ** 17
SCRIPT_STEPS = 400
NOT_AT_DESKS = ("undo", "redo", "script", "typed")


class Engine:
    """One document, and of each level the deeds that were accepted and can be undone and redone."""

    def __init__(self, levels, *, limit=40):
        if not is_integer(limit) or not 1 <= limit <= GREATEST_LIMIT:
            raise InvalidNumber(limit)
        self.levels = levels
        self.limit = limit
        self.document = Document(levels, limit)
        self.entries = []
        self.undos = {level: [] for level in levels.names()}
        self.redos = {level: [] for level in levels.names()}

    def perform(self, level, deed, source="", mark=None):
        """Does a deed of a level and returns the answer: told or refused."""
        self.levels.check(level)
        if not is_source(source):
            raise InvalidName(source)
        if mark is not None and not self.is_free(level, deed, mark):
            raise InvalidName(mark)
        try:
            value = self.done(level, deed, source, mark)
        except Refused as refusal:
            return ("refused", refusal.word, refusal.value)
        self.entries.append((level, deed, value))
        return ("told", value)

    def is_free(self, level, deed, mark):
        """Tells whether a value is a mark of a level from which on a deed may make its marks."""
        if not is_mark(mark) or mark[0] != level or mark[2] > GREATEST_GIVEN:
            return False
        many = marks_made(deed) if is_deed(deed) else 0
        drawn = self.document.drawn
        return not any([(level, mark[1], mark[2] + index) in drawn for index in range(many)])

    def done(self, level, deed, source, mark):
        """Does a deed and returns what is told, or raises Refused before anything is changed."""
        if not is_deed(deed):
            raise Refused("deed", deed)
        if deed[0] == "undo":
            return self.led(level, self.undos, self.redos, BACK)
        if deed[0] == "redo":
            return self.led(level, self.redos, self.undos, AGAIN)
        if deed[0] == "script":
            return self.script_done(level, deed[1], source)
        first = self.document.next_mark(level, source) if mark is None else mark
        value, step = prepared(self.document, level, first, deed)
        self.document.lead(step, AGAIN)
        self.keep(level, step)
        return value

    def keep(self, level, step):
        """Keeps a step that was done, so that it can be undone; what was undone is gone now."""
        self.undos[level].append(step)
        self.redos[level] = []

    def led(self, level, steps, others, side):
        """Undoes or redoes the latest one of the steps of a level and returns its word."""
        if not steps[level]:
            raise Refused("nothing", None)
        step = steps[level].pop()
        self.document.lead(step, side)
        others[level].append(step)
        return step.word

    def script_steps(self):
        """Returns how many steps a script has."""
        return SCRIPT_STEPS

    def script_done(self, level, text, source):
        """Runs a script; all its deeds are one step."""
        try:
            script = Script.read(text)
        except InvalidScript as error:
            raise Refused("script", ("syntax", error.at)) from None
        desk = Desk(self, level)
        desk.source = source
        answer, behind = run_script(script, desk, self.script_steps())
        if answer[0] == "refused":
            raise Refused("script", answer[2])
        self.go_on(level, behind.engine)
        return answer[1]

    def go_on(self, level, other):
        """Goes on from where a twin stands behind deeds of a level, which are one step here."""
        steps = []
        for each in list(self.undos):
            many = len(self.undos[each])
            steps.extend(other.undos[each][many:])
            self.undos[each] = other.undos[each][:many]
            self.redos[each] = list(other.redos[each])
        self.document = other.document
        self.keep(level, joined_step("script", level, steps))

    def clock(self, level):
        """Returns how many deeds of a level and of those below it were accepted."""
        downs = self.levels.downs(level)
        return len([entry for entry in self.entries if entry[0] in downs])

    def log(self, level):
        """Returns the accepted deeds of a level, with what was told."""
        self.levels.check(level)
        return [(deed, value) for each, deed, value in self.entries if each == level]

    def room(self, level):
        """Returns how many nodes the own deeds of a level may still make."""
        self.levels.check(level)
        return self.limit - self.document.used_by(level)

    def blank(self):
        """Returns a new engine of the same kind."""
        return Engine(self.levels, limit=self.limit)

    def twin(self):
        """Returns an independent engine in the same state."""
        other = self.blank()
        other.document = self.document.twin()
        other.entries = list(self.entries)
        other.undos = {level: list(self.undos[level]) for level in self.undos}
        other.redos = {level: list(self.redos[level]) for level in self.redos}
        return other

    def view(self, level):
        """Returns the view of a level."""
        return view_of(self.document, self.levels.downs(level))

    def state(self, level):
        """Returns a value that is equal for engines in which a level and all below it stand alike."""
        # Sorted, because the order in which an engine lists its levels does not count.
        shown = sorted(self.levels.downs(level))
        return (
            tuple(shown),
            self.document.summary(shown),
            self.document.last_numbers(shown),
            tuple([self.room(each) for each in shown]),
            tuple([self.clock(each) for each in shown]),
            tuple([tuple([step.summary() for step in self.undos[each]]) for each in shown]),
            tuple([tuple([step.summary() for step in self.redos[each]]) for each in shown]),
        )


class Desk:
    """A level at work on a twin of an engine."""

    def __init__(self, engine, level):
        engine.levels.check(level)
        self.engine = engine.twin()
        self.level = level
        self.source = ""

    def view(self):
        """Returns the view of the level."""
        return self.engine.view(self.level)

    def deed(self, deed):
        """Does a deed of the level and returns the answer."""
        if is_deed(deed) and deed[0] in NOT_AT_DESKS:
            return ("refused", "deed", deed)
        return self.engine.perform(self.level, deed, self.source)

    def twin(self):
        """Returns an independent desk in the same state."""
        other = Desk(self.engine, self.level)
        other.source = self.source
        return other
