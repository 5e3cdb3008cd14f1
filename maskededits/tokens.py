"""Cutting the text of a script into tokens: tuples of a sort, a value and an index."""

from maskededits.errors import InvalidScript
from maskededits.forms import LONGEST_SCRIPT
from maskededits.levels import LETTERS
from maskededits.names import DIGITS

MOST_DIGITS = 18
BLANKS = " \n\t"
WORD_SIGNS = "abcdefghijklmnopqrstuvwxyz0123456789_"
KEYWORDS = ("if", "else", "while", "for", "in", "try", "tell", "and", "or")
# The longer ones stand first: of two that fit, the longer one is taken.
SIGNS = ("==", "!=", "<=", "=", "<", "+", "-", "*", "(", ")", "{", "}", ",", ";")


def end_of_row(text, at, signs):
    """Returns the index behind all signs of a kind that stand in a row."""
    while at < len(text) and text[at] in signs:
        at += 1
    return at


def number_token(text, at):
    """Returns the number that begins at an index, and the index behind it."""
    end = end_of_row(text, at, DIGITS)
    if end - at > MOST_DIGITS or (end - at > 1 and text[at] == "0"):
        raise InvalidScript(at)
    return ("number", int(text[at:end]), at), end


def word_token(text, at):
    """Returns the word that begins at an index, and the index behind it; a keyword is a sign."""
    end = end_of_row(text, at, WORD_SIGNS)
    word = text[at:end]
    return ("sign" if word in KEYWORDS else "word", word, at), end


def text_token(text, at):
    """Returns the text that begins at an index, and the index behind it."""
    end = text.find('"', at + 1)
    if end < 0:
        raise InvalidScript(at)
    for index in range(at + 1, end):
        if not " " <= text[index] <= "~":
            raise InvalidScript(index)
    return ("text", text[at + 1:end], at), end + 1


def sign_token(text, at):
    """Returns the sign that begins at an index, and the index behind it."""
    for sign in SIGNS:
        if text[at:at + len(sign)] == sign:
            return ("sign", sign, at), at + len(sign)
    raise InvalidScript(at)


def token_at(text, at):
    """Returns the token that begins at an index, and the index behind it."""
    if text[at] in DIGITS:
        return number_token(text, at)
    if text[at] in LETTERS:
        return word_token(text, at)
    if text[at] == '"':
        return text_token(text, at)
    return sign_token(text, at)


def tokens_of(text):
    """Returns the tokens of the whole text, and behind them one for its end."""
    if len(text) > LONGEST_SCRIPT:
        raise InvalidScript(LONGEST_SCRIPT)
    tokens = []
    at = end_of_row(text, 0, BLANKS)
    while at < len(text):
        token, end = token_at(text, at)
        tokens.append(token)
        at = end_of_row(text, end, BLANKS)
    tokens.append(("end", "", len(text)))
    return tokens
