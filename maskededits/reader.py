"""Reading scripts: from tokens to statements and expressions.

A statement is a tuple (word, name, expression, block, other block); what it does not have is None or ().
An expression is ("number", number), ("text", text), ("variable", word), ("call", word, expressions), or
("row", group, operands, operators): a row of operators of one group.
"""

from maskededits.errors import InvalidScript
from maskededits.tokens import tokens_of

MOST_NESTED = 12
OR = 0
AND = 1
COMPARING = 2
# From those that bind least.
GROUPS = (("or",), ("and",), ("==", "!=", "<", "<="), ("+", "-"), ("*",))
# For each call the kinds of its arguments.
ARGUMENTS = {
    "node": ("text",),
    "kids": ("name",),
    "text": ("name",),
    "kind": ("name",),
    "level": ("name",),
    "inner": ("name",),
    "holder": ("name",),
    "find": ("text",),
    "size": ("text or list",),
    "item": ("list", "number"),
    "written": ("number",),
    "not": ("any",),
    "insert": ("name", "number", "text", "text"),
    "pocket": ("name", "number", "text", "text"),
    "change": ("name", "text"),
    "move": ("name", "name", "number"),
    "copy": ("name", "name", "number"),
    "delete": ("name",),
}


class Reader:
    """Reads the tokens of a text from left to right; stops at the first one that cannot stand there."""

    def __init__(self, text):
        self.tokens = tokens_of(text)
        self.place = 0

    def wrong(self):
        """Raises InvalidScript at the token that is next."""
        raise InvalidScript(self.tokens[self.place][2])

    def is_next(self, sign):
        """Tells whether a sign or keyword is next."""
        sort, value, at = self.tokens[self.place]
        return sort == "sign" and value == sign

    def take(self, sign):
        """Goes on behind a sign or keyword that must be next."""
        if not self.is_next(sign):
            self.wrong()
        self.place += 1

    def take_name(self):
        """Goes on behind a word that must be next, and returns it."""
        sort, value, at = self.tokens[self.place]
        if sort != "word":
            self.wrong()
        self.place += 1
        return value

    def all_statements(self):
        """Returns the statements of the whole text."""
        statements = []
        while self.tokens[self.place][0] != "end":
            statements.append(self.statement(0))
        return tuple(statements)

    def block(self, depth):
        """Returns the statements of a block at a level of nesting."""
        if depth > MOST_NESTED:
            self.wrong()
        self.take("{")
        statements = []
        while not self.is_next("}"):
            statements.append(self.statement(depth))
        self.take("}")
        return tuple(statements)

    def other_block(self, depth):
        """Returns the statements of the block behind else, if there is one."""
        if not self.is_next("else"):
            return ()
        self.take("else")
        return self.block(depth)

    def statement(self, depth):
        """Returns the statement that is next."""
        sort, word, at = self.tokens[self.place]
        if sort == "sign" and word in ("if", "while", "for", "try"):
            self.take(word)
            return self.block_statement(word, depth)
        if self.is_next("tell"):
            self.take("tell")
            return self.ended(("tell", None, self.expression(depth), (), ()))
        if sort == "word" and self.tokens[self.place + 1][:2] == ("sign", "="):
            self.place += 2
            return self.ended(("set", word, self.expression(depth), (), ()))
        return self.ended(("do", None, self.expression(depth), (), ()))

    def ended(self, statement):
        """Returns a statement behind which its semicolon must be next."""
        self.take(";")
        return statement

    def block_statement(self, word, depth):
        """Returns a statement with a block; its first word is read already."""
        name = None
        expression = None
        other = ()
        if word == "for":
            name = self.take_name()
            self.take("in")
        if word != "try":
            expression = self.expression(depth)
        block = self.block(depth + 1)
        if word in ("if", "try"):
            other = self.other_block(depth + 1)
        return (word, name, expression, block, other)

    def expression(self, depth):
        """Returns the expression that is next."""
        return self.row(0, depth)

    def row(self, group, depth):
        """Returns the row of operators of a group that is next, or the operand that stands alone."""
        if group == len(GROUPS):
            return self.operand(depth)
        operands = [self.row(group + 1, depth)]
        operators = []
        while self.has_operator(group) and not (group == COMPARING and operators):
            operators.append(self.tokens[self.place][1])
            self.place += 1
            operands.append(self.row(group + 1, depth))
        if not operators:
            return operands[0]
        return ("row", group, tuple(operands), tuple(operators))

    def has_operator(self, group):
        """Tells whether an operator of a group is next."""
        sort, value, at = self.tokens[self.place]
        return sort == "sign" and value in GROUPS[group]

    def operand(self, depth):
        """Returns the operand that is next."""
        sort, value, at = self.tokens[self.place]
        if self.is_next("("):
            self.step_in(depth + 1)
            expression = self.expression(depth + 1)
            self.take(")")
            return expression
        if sort not in ("number", "text", "word"):
            self.wrong()
        self.place += 1
        if sort != "word":
            return (sort, value)
        if self.is_next("("):
            return self.call(value, at, depth + 1)
        return ("variable", value)

    def step_in(self, depth):
        """Goes on behind a parenthesis, into a level of nesting."""
        self.take("(")
        if depth > MOST_NESTED:
            self.wrong()

    def call(self, word, at, depth):
        """Returns a call; its word, which stands at an index, is read already."""
        self.step_in(depth)
        arguments = []
        if not self.is_next(")"):
            arguments.append(self.expression(depth))
            while self.is_next(","):
                self.take(",")
                arguments.append(self.expression(depth))
        self.take(")")
        if word not in ARGUMENTS or len(arguments) != len(ARGUMENTS[word]):
            raise InvalidScript(at)
        return ("call", word, tuple(arguments))
