"""The server, which lets users work at their levels, and the sessions in which they do."""

from maskededits.checker import answer_to
from maskededits.edits import Edit
from maskededits.engine import Engine
from maskededits.errors import Closed, InvalidRights, Refused
from maskededits.forms import word_of
from maskededits.levels import is_word
from maskededits.moments import Past
from maskededits.release import Releases


def are_rights(levels, thing):
    """Tells whether a value is a dict from words to lists or tuples of levels."""
    if not isinstance(thing, dict) or not all([is_word(user) for user in thing]):
        return False
    return all([are_levels(levels, thing[user]) for user in thing])


def are_levels(levels, thing):
    """Tells whether a value is a list or tuple of levels."""
    return isinstance(thing, (list, tuple)) and all([levels.has(level) for level in thing])


class Server:
    """One engine with its releases, the rights of users, and all calls that sessions made."""

    def __init__(self, levels, rights, *, limit=40):
        if not are_rights(levels, rights):
            raise InvalidRights(rights)
        self.engine = Engine(levels, limit=limit)
        self.releases = Releases(self.engine, rights)
        self.rights = {user: list(rights[user]) for user in rights}
        self.calls = []

    def session(self, user, level):
        """Returns a session of a user who has a right on a level."""
        self.releases.check_right(user, level)
        return Session(self, user, level)

    def users(self, level):
        """Yields the users who have a right on a level, in ascending order."""
        self.engine.levels.check(level)
        yield from [user for user in sorted(self.rights) if level in self.rights[user]]

    def log(self):
        """Returns all calls of sessions with their answers, in order."""
        return list(self.calls)

    def __len__(self):
        return len(self.calls)


class Session:
    """A user at work at a level, until the session is closed."""

    def __init__(self, server, user, level):
        self.server = server
        self.user = user
        self.level = level
        self.is_open = True

    def __enter__(self):
        return self

    def __exit__(self, kind, value, trace):
        self.is_open = False

    def close(self):
        """Closes the session; nothing but closing it can be done any more."""
        self.is_open = False

    def check_open(self):
        """Raises Closed if the session is not open."""
        if not self.is_open:
            raise Closed()

    def call(self, deed):
        """Does a deed of the level, or asks, and returns the answer."""
        self.check_open()
        # Only what was offered and approved is entered as typed.
        if word_of(deed) == "typed":
            return ("refused", "deed", deed)
        answer = answer_to(self.server.engine, self.level, deed)
        self.server.calls.append((self.level, deed, answer))
        return answer

    def do(self, *deed):
        """Does the deed with some parts, or asks, and returns what is told."""
        answer = self.call(deed)
        if answer[0] == "refused":
            raise Refused(answer[1], answer[2])
        return answer[1]

    def view(self):
        """Returns the view of the level."""
        self.check_open()
        return self.server.engine.view(self.level)

    def past(self):
        """Returns the past of the level."""
        self.check_open()
        return Past(self.server.engine, self.level)

    def edit(self, text):
        """Does the deeds that lead from the view to a changed text, and returns the answers."""
        plan = Edit(self.view(), self.level, text)
        return plan(lambda deed: self.call(deed))

    def offer(self, name, to, holder, place):
        """Offers a piece of the level to a lower one, and returns the number of the offer."""
        self.check_open()
        return self.server.releases.offer(self.user, self.level, name, to, holder, place)

    def approve(self, number):
        """Enters an offer of another user at the lower level, and returns the name of its top."""
        self.check_open()
        name = self.server.releases.approve(self.user, self.level, number)
        # The deed that entered it is the latest one of the engine.
        level, deed, told = self.server.engine.entries[-1]
        self.server.calls.append((level, deed, ("told", told)))
        return name

    def withdraw(self, number):
        """Closes an offer of this user."""
        self.check_open()
        self.server.releases.withdraw(self.user, self.level, number)

    def open_offers(self):
        """Returns the open offers of the level, in ascending order of numbers."""
        self.check_open()
        return list(self.server.releases.offers(self.user, self.level))
