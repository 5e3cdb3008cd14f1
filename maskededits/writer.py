"""The written form of scripts, and the words of their calls."""

from maskededits.reader import GROUPS


def operand_text(group, operand):
    """Returns the text of an operand in a row of operators of a group."""
    text = expression_text(operand)
    if operand[0] == "row" and operand[1] <= group:
        return f"({text})"
    return text


def row_text(expression):
    """Returns the text of a row of operators."""
    sort, group, operands, operators = expression
    words = [operand_text(group, operands[0])]
    for operator, operand in zip(operators, operands[1:]):
        words.extend([operator, operand_text(group, operand)])
    return " ".join(words)


def expression_text(expression):
    """Returns the text of an expression."""
    if expression[0] == "row":
        return row_text(expression)
    if expression[0] == "call":
        arguments = ", ".join([expression_text(each) for each in expression[2]])
        return f"{expression[1]}({arguments})"
    if expression[0] == "text":
        return f'"{expression[1]}"'
    return str(expression[1])


def head_text(statement):
    """Returns what stands before the first block of a statement."""
    word, name, expression, block, other = statement
    if word == "try":
        return "try"
    if word == "for":
        return f"for {name} in {expression_text(expression)}"
    return f"{word} {expression_text(expression)}"


def statement_lines(statement):
    """Returns the lines of a statement."""
    word, name, expression, block, other = statement
    if word == "set":
        return [f"{name} = {expression_text(expression)};"]
    if word == "tell":
        return [f"tell {expression_text(expression)};"]
    if word == "do":
        return [f"{expression_text(expression)};"]
    lines = [f"{head_text(statement)} {{", *inner_lines(block)]
    if other != ():
        lines.extend(["} else {", *inner_lines(other)])
    return [*lines, "}"]


def inner_lines(block):
    """Returns the lines of the statements of a block, two spaces further right."""
    return [f"  {line}" for line in block_lines(block)]


def block_lines(statements):
    """Returns the lines of statements."""
    return [line for statement in statements for line in statement_lines(statement)]


def calls_in(expression):
    """Returns the words of the calls in an expression, those in arguments ahead of their call."""
    if expression[0] == "call":
        return [*[word for each in expression[2] for word in calls_in(each)], expression[1]]
    if expression[0] == "row":
        return [word for each in expression[2] for word in calls_in(each)]
    return []


def calls_in_block(statements):
    """Returns the words of the calls in statements, in the order of the text."""
    words = []
    for name, expression, block, other in [statement[1:] for statement in statements]:
        if expression is not None:
            words = [*words, *calls_in(expression)]
        words = [*words, *calls_in_block(block), *calls_in_block(other)]
    return words
