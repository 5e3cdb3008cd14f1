"""Running scripts: a run works on a desk of its own, and counts its steps."""

from maskededits.errors import InvalidName
from maskededits.names import parse_name
from maskededits.reader import AND, ARGUMENTS, OR

BOUND = 10 ** 18
LONGEST = 200
NO = ("number", 0)
# For each operator the kinds of its two operands, which are of one kind.
OPERANDS = {
    "<": ("number", "text"),
    "<=": ("number", "text"),
    "+": ("number", "text", "list"),
    "-": ("number",),
    "*": ("number",),
}
# For each call that is a deed the kind of its value.
DEEDS = {"insert": "name", "pocket": "name", "change": "text", "move": "number", "copy": "name", "delete": "number"}
# For each call that reads a part of a node the place of this part in a row of a view.
PARTS = {"kind": 0, "text": 1, "level": 2, "inner": 3, "holder": 4}


class Stop(Exception):
    """A script that stops: the word, the count of steps and the value."""

    def __init__(self, word, count, value):
        self.word = word
        self.count = count
        self.value = value


def is_true(value):
    """Tells whether a value of a script counts as true; each name does."""
    return value[0] == "name" or value[1] not in (0, "", ())


def truth(told):
    """Returns the number of a script for true or false."""
    return ("number", 1 if told else 0)


def name_written(text):
    """Returns the name that a text writes, or None."""
    try:
        return parse_name(text)
    except InvalidName:
        return None


class Run:
    """A script at work: the desk, the steps counted, the variables and the values told."""

    def __init__(self, desk, steps):
        self.desk = desk
        self.steps = steps
        self.counted = 0
        self.variables = {}
        self.told = []
        self.seen = None

    def stop(self, word, value):
        """Stops the script with the steps counted so far."""
        raise Stop(word, self.counted, value)

    def count_step(self):
        """Counts a step, or stops if all are used."""
        if self.counted >= self.steps:
            raise Stop("steps", self.steps, self.steps)
        self.counted += 1

    def sight(self):
        """Returns the view of the desk, which stays the same until the next deed."""
        if self.seen is None:
            self.seen = self.desk.view()
        return self.seen

    def do_block(self, statements):
        """Does statements, one after another."""
        for statement in statements:
            self.count_step()
            self.do_statement(statement)

    def do_statement(self, statement):
        """Does a statement, whose step is counted."""
        word, name, expression, block, other = statement
        if word == "set":
            self.variables[name] = self.value_of(expression)
        elif word == "tell":
            self.told.append(self.value_of(expression))
        elif word == "do":
            self.value_of(expression)
        elif word == "if":
            self.do_block(block if is_true(self.value_of(expression)) else other)
        elif word == "while":
            while is_true(self.value_of(expression)):
                self.do_block(block)
        elif word == "for":
            self.do_for(name, self.value_of(expression), block)
        else:
            self.do_try(block, other)

    def do_for(self, variable, value, block):
        """Does a block for each name of a list."""
        if value[0] != "list":
            self.stop("kind", "for")
        for name in value[1]:
            self.variables[variable] = ("name", name)
            self.do_block(block)

    def do_try(self, block, other):
        """Does a block; if it stops, takes back all but the count, and does the other one."""
        desk = self.desk.twin()
        variables = {name: self.variables[name] for name in self.variables}
        told = list(self.told)
        failed = False
        try:
            self.do_block(block)
        except Stop as stopped:
            if stopped.word == "steps":
                raise
            failed = True
        if failed:
            self.desk = desk
            self.seen = None
            self.variables = variables
            self.told = told
            self.do_block(other)

    def value_of(self, expression):
        """Counts a step and returns the value of an expression."""
        self.count_step()
        sort = expression[0]
        if sort == "row":
            return self.row_value(expression)
        if sort == "call":
            return self.call_value(expression[1], [self.value_of(each) for each in expression[2]])
        if sort == "variable":
            if expression[1] not in self.variables:
                self.stop("unset", expression[1])
            return self.variables[expression[1]]
        return expression

    def row_value(self, expression):
        """Returns the value of a row of operators of one group."""
        sort, group, operands, operators = expression
        if group in (OR, AND):
            return self.logic_value(group == OR, operands)
        value = self.value_of(operands[0])
        for operator, operand in zip(operators, operands[1:]):
            value = self.applied(operator, value, self.value_of(operand))
        return value

    def logic_value(self, decides, operands):
        """Returns 1 or 0 for operands of which the first one with a certain truth decides."""
        for operand in operands:
            if is_true(self.value_of(operand)) == decides:
                return truth(decides)
        return truth(not decides)

    def applied(self, operator, one, other):
        """Returns what an operator makes of two values."""
        if operator == "==":
            return truth(one == other)
        if operator == "!=":
            return truth(one != other)
        kind = one[0]
        if kind != other[0] or kind not in OPERANDS[operator]:
            self.stop("kind", operator)
        if operator == "<":
            return truth(one[1] < other[1])
        if operator == "<=":
            return truth(one[1] <= other[1])
        if operator == "+":
            return self.sized(operator, (kind, one[1] + other[1]))
        if operator == "-":
            return self.sized(operator, (kind, one[1] - other[1]))
        return self.sized(operator, (kind, one[1] * other[1]))

    def sized(self, word, value):
        """Returns a value, or stops if it is too large."""
        kind, thing = value
        if kind == "number" and not -BOUND < thing < BOUND:
            self.stop("size", word)
        if kind in ("text", "list") and len(thing) > LONGEST:
            self.stop("size", word)
        return value

    def call_value(self, word, values):
        """Returns the value of a call with arguments that are evaluated."""
        for kinds, value in zip(ARGUMENTS[word], values):
            if kinds != "any" and value[0] not in kinds.split(" or "):
                self.stop("kind", word)
        if word == "not":
            return truth(not is_true(values[0]))
        parts = [value[1] for value in values]
        if word in DEEDS:
            return self.deed_value(word, parts)
        return self.sized(word, self.read_value(word, parts))

    def read_value(self, word, parts):
        """Returns the value of a call that reads."""
        if word in PARTS:
            return self.part_value(word, parts[0])
        if word == "node":
            return self.node_value(parts[0])
        if word == "kids":
            return self.kids_value(parts[0])
        if word == "find":
            view = self.sight()
            return ("list", tuple([name for name in list(view.walk()) if view[name][0] == parts[0]]))
        if word == "size":
            return ("number", len(parts[0]))
        if word == "written":
            return ("text", str(parts[0]))
        if not 0 <= parts[1] < len(parts[0]):
            self.stop("item", parts[1])
        return ("name", parts[0][parts[1]])

    def part_value(self, word, name):
        """Returns a part of a seen node."""
        if name not in self.sight():
            self.stop("name", name)
        part = self.sight()[name][PARTS[word]]
        if word == "holder":
            return ("name", part)
        return ("text", "" if part is None else part)

    def node_value(self, text):
        """Returns the name of a seen node, or of the root box, that a text writes."""
        name = name_written(text)
        # What is no name is none that is seen, either.
        if name != () and name not in self.sight():
            self.stop("name", text)
        return ("name", name)

    def kids_value(self, name):
        """Returns the list of what a seen node, its box or the root box holds."""
        if name != () and name not in self.sight():
            self.stop("name", name)
        held = self.sight().holds(name)
        if held is None:
            self.stop("closed", name)
        return ("list", held)

    def deed_value(self, word, parts):
        """Does a deed and returns what is told."""
        answer = self.desk.deed((word, *parts))
        self.seen = None
        if answer[0] == "refused":
            self.stop("deed", (answer[1], answer[2]))
        if word == "move":
            return NO
        return (DEEDS[word], answer[1])


def run_script(script, desk, steps=400):
    """Runs a script on a twin of a desk; returns the answer and the desk behind it, or the desk given."""
    run = Run(desk.twin(), steps)
    try:
        run.do_block(script.statements)
    except Stop as stopped:
        return ("refused", "script", (stopped.word, stopped.count, stopped.value)), desk
    return ("told", tuple(run.told)), run.desk
