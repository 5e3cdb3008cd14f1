"""Scripts: what can be read from a text, written, joined and run."""

from maskededits.reader import Reader
from maskededits.writer import block_lines, calls_in_block


class Script:
    """The statements of a script; without any if none are given."""

    def __init__(self, statements=()):
        self.statements = tuple(statements)

    @staticmethod
    def read(text):
        """Returns the script that a text writes."""
        return Script(Reader(text).all_statements())

    def __str__(self):
        return "\n".join(block_lines(self.statements))

    def __eq__(self, other):
        return isinstance(other, Script) and self.statements == other.statements

    def __add__(self, other):
        return Script((*self.statements, *other.statements))

    def __len__(self):
        return len(self.statements)

    def __contains__(self, word):
        return isinstance(word, str) and word in calls_in_block(self.statements)

    def call_words(self):
        """Yields the words of all calls in the order of the text, those in arguments ahead of their call."""
        yield from calls_in_block(self.statements)
