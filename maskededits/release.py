"""Releases: pieces that a level hands down to a lower level, offered by one user and approved by another."""

from maskededits.deeds import check_holder, check_node, check_place
from maskededits.errors import NoOffer, NoRight, NotSeen, Refused, SameUser
from maskededits.names import is_integer
from maskededits.views import INNER, KIND, TEXT, names_below


def payload_of(view, name):
    """Returns the payload of a node that a view shows."""
    if name not in view:
        raise NotSeen(name)
    piece = [name]
    if name in view.held:
        piece.extend(names_below(view.held, name))
    for each in piece:
        if view[each][INNER] is not None:
            raise Refused("closed", each)
    payloads = {}
    # Behind a node come those in it, so backwards each node finds its payloads made.
    for each in piece[::-1]:
        kind, text = view[each][KIND], view[each][TEXT]
        payloads[each] = (kind, text, tuple([payloads[child] for child in view.holds(each)]))
    return payloads[name]


class Releases:
    """The offers of all levels of an engine.

    An offer is a tuple of its user, the payload, the lower level, and the holder and place there.
    """

    def __init__(self, engine, rights):
        self.engine = engine
        self.rights = {user: list(rights[user]) for user in rights}
        self.waiting = {level: {} for level in engine.levels.names()}
        self.drawn = {level: 0 for level in engine.levels.names()}

    def check_right(self, user, level):
        """Raises InvalidLevel or NoRight if a user does not have a level."""
        self.engine.levels.check(level)
        if not isinstance(user, str) or level not in self.rights.get(user, ()):
            raise NoRight(user)

    def open_offer(self, level, number):
        """Returns the open offer of a level with a number."""
        if not is_integer(number) or number not in self.waiting[level]:
            raise NoOffer(number)
        return self.waiting[level][number]

    def offer(self, user, level, name, to, holder, place):
        """Offers a piece of a level to a lower one, and returns the number of the offer."""
        self.check_right(user, level)
        document = self.engine.document
        check_node(document, level, name)
        payload = payload_of(self.engine.view(level), name)
        if not self.engine.levels.has(to) or not self.engine.levels.above(level, to):
            raise Refused("above", to)
        check_holder(document, to, holder)
        check_place(place, document.held[holder])
        self.drawn[level] += 1
        self.waiting[level][self.drawn[level]] = (user, payload, to, holder, place)
        return self.drawn[level]

    def approve(self, user, level, number):
        """Enters an offer of another user at the lower level, and returns the name of its top."""
        self.check_right(user, level)
        maker, payload, to, holder, place = self.open_offer(level, number)
        if maker == user:
            raise SameUser(user)
        answer = self.engine.perform(to, ("typed", payload, holder, place))
        if answer[0] == "refused":
            raise Refused(answer[1], answer[2])
        del self.waiting[level][number]
        return answer[1]

    def withdraw(self, user, level, number):
        """Closes an offer of the same user."""
        self.check_right(user, level)
        if self.open_offer(level, number)[0] != user:
            raise NoRight(user)
        del self.waiting[level][number]

    def offers(self, user, level):
        """Yields the open offers of a level, in ascending order of numbers."""
        self.check_right(user, level)
        # Whoever goes through the offers may close some of them meanwhile.
        yield from [(number, *self.waiting[level][number]) for number in sorted(self.waiting[level])]
