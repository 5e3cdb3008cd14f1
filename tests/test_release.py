"""Tests of payloads and releases ([17])."""

import unittest

from helpers import all_seen, diamond, high, low, seen_of, told, two_levels
from maskededits.engine import Engine
from maskededits.errors import InvalidLevel, NoOffer, NoRight, NotSeen, Refused, SameUser
from maskededits.levels import Levels
from maskededits.release import Releases, payload_of
from model import Deeds, Model

RIGHTS = {"ann": ["low", "high"], "bob": ("high",), "cid": ["low"], "dan": []}
NO_LEVELS = ["", "none", None, 0, True, (), ["low"], {}, b"low"]
NO_USERS = ["eve", "", None, 0, True, (), ["ann"], {}, b"ann", ("ann",)]
NO_NUMBERS = [0, 2, -1, True, None, "1", (1,), [1], {}, 1 << 70]


def office(**named):
    """Returns an engine with nodes of both levels, and its releases.

    low.1 list, in it low.2 line; low.3 pocket, in it high.1 list with high.2 line and high.3 item, and high.4 line.
    """
    engine = two_levels(**named)
    told(engine, "low", ("insert", (), 0, "list", "plans"), ("insert", low(1), 0, "line", "one"),
         ("pocket", (), 1, "high", "notes"))
    told(engine, "high", ("insert", low(3), 0, "list", "ours"), ("insert", high(1), 0, "line", "a"),
         ("insert", high(1), 1, "item", "b"), ("insert", low(3), 1, "line", "lunch at one"))
    return engine, Releases(engine, RIGHTS)


class PayloadTests(unittest.TestCase):
    def test_payloads_of_one_node_and_of_several(self):
        engine, _ = office()
        view = engine.view("high")
        self.assertEqual(payload_of(view, high(4)), ("line", "lunch at one", ()))
        self.assertEqual(payload_of(view, high(1)), ("list", "ours", (("line", "a", ()), ("item", "b", ()))))
        self.assertEqual(payload_of(view, low(1)), ("list", "plans", (("line", "one", ()),)))
        self.assertEqual(payload_of(engine.view("low"), low(2)), ("line", "one", ()))

    def test_deep_payloads(self):
        engine = Engine(Levels(["low"]), limit=60)
        spot, due = (), ()
        for index in range(60):
            spot = told(engine, "low", ("insert", spot, 0, "line", str(index)))[0]
        for index in range(59, -1, -1):
            due = (("line", str(index), due),)
        self.assertEqual(payload_of(engine.view("low"), low(1)), due[0])

    def test_nodes_that_are_not_seen(self):
        engine, _ = office()
        for thing in [(), None, 0, "low.1", low(9), high(1), (("low", "", True),), [], {}, low(1)[0]]:
            with self.assertRaises(NotSeen) as caught:
                payload_of(engine.view("low"), thing)
            self.assertIs(caught.exception.value, thing)

    def test_the_first_pocket(self):
        engine = Engine(Levels(["low", "high", "top"], [("high", "top")]))
        told(engine, "low", ("insert", (), 0, "list", ""), ("insert", low(1), 0, "list", ""),
             ("pocket", low(1), 1, "high", "x"), ("pocket", low(2), 0, "top", "y"), ("insert", low(2), 0, "line", ""))
        told(engine, "high", ("insert", low(3), 0, "line", ""), ("pocket", low(3), 1, "top", "z"))
        for level in ("low", "high", "top"):
            for name, pocket in [(low(1), low(4)), (low(2), low(4)), (low(3), low(3)), (low(4), low(4))]:
                with self.assertRaises(Refused) as caught:
                    payload_of(engine.view(level), name)
                self.assertEqual([caught.exception.word, caught.exception.value], ["closed", pocket])
        self.assertEqual(payload_of(engine.view("high"), high(1)), ("line", "", ()))


class ReleaseTests(unittest.TestCase):
    def refusal(self, error, act, *parts):
        """Returns what an error that a call raises was made of."""
        with self.assertRaises(error) as caught:
            act(*parts)
        return (caught.exception.word, caught.exception.value) if error == Refused else caught.exception.value

    def test_an_offer_that_is_approved(self):
        engine, releases = office()
        before = seen_of(engine, "low")
        self.assertEqual(releases.offer("ann", "high", high(1), "low", low(1), 1), 1)
        self.assertEqual(seen_of(engine, "low"), before)
        payload = ("list", "ours", (("line", "a", ()), ("item", "b", ())))
        self.assertEqual(list(releases.offers("bob", "high")), [(1, "ann", payload, "low", low(1), 1)])
        self.assertEqual(releases.approve("bob", "high", 1), low(4))
        self.assertEqual(engine.log("low")[-1], (("typed", payload, low(1), 1), low(4)))
        self.assertEqual([engine.view("low").holds(name) for name in (low(1), low(4))], [(low(2), low(4)), (low(5), low(6))])
        self.assertEqual(list(releases.offers("bob", "high")), [])
        self.assertEqual([engine.clock("low"), engine.room("low")], [4, 40 - 6])
        self.assertEqual(engine.perform("low", ("undo",)), ("told", "typed"))

    def test_nothing_tells_of_an_offer_that_is_not_approved(self):
        engine, releases = office()
        before = all_seen(engine)
        releases.offer("ann", "high", high(1), "low", (), 0)
        releases.offer("bob", "high", high(4), "low", (), 0)
        releases.withdraw("bob", "high", 2)
        self.assertEqual(all_seen(engine), before)
        self.assertEqual(list(releases.offers("ann", "low")), [])
        releases.approve("bob", "high", 1)
        alone = two_levels()
        for deed, value in engine.log("low"):
            alone.perform("low", deed)
        self.assertEqual(seen_of(alone, "low"), seen_of(engine, "low"))

    def test_numbers_of_offers_of_each_level(self):
        engine = Engine(Levels(["low", "mid", "high"], [("mid", "high")]))
        told(engine, "low", ("pocket", (), 0, "mid", ""), ("pocket", (), 1, "high", ""))
        told(engine, "mid", ("insert", low(1), 0, "line", "m"))
        told(engine, "high", ("insert", low(2), 0, "line", "h"))
        releases = Releases(engine, {"ann": ["mid", "high"], "bob": ["mid", "high"]})
        mid = (("mid", "", 1),)
        self.assertEqual([releases.offer("ann", "mid", mid, "low", (), 0), releases.offer("bob", "high", high(1), "mid", low(1), 0),
                          releases.offer("bob", "high", high(1), "low", (), 1), releases.offer("ann", "mid", mid, "low", (), 0)],
                         [1, 1, 2, 2])
        self.assertEqual([row[0] for row in releases.offers("bob", "high")], [1, 2])
        releases.withdraw("bob", "high", 2)
        releases.withdraw("ann", "mid", 1)
        self.assertEqual(releases.offer("bob", "high", high(1), "low", (), 0), 3)
        self.assertEqual([row[:2] for row in releases.offers("bob", "high")], [(1, "bob"), (3, "bob")])
        self.assertEqual([row[:2] for row in releases.offers("bob", "mid")], [(2, "ann")])
        self.assertEqual(releases.approve("ann", "high", 1), (("mid", "", 2),))
        self.assertEqual([row[0] for row in releases.offers("bob", "high")], [3])

    def test_the_node_changes_between_offer_and_approval(self):
        engine, releases = office()
        releases.offer("ann", "high", high(1), "low", (), 0)
        told(engine, "high", ("change", high(2), "changed"), ("move", high(3), low(3), 0), ("delete", high(1)))
        name = releases.approve("bob", "high", 1)
        view = engine.view("low")
        self.assertEqual([view[each][:2] for each in (name, *view.holds(name))],
                         [("list", "ours"), ("line", "a"), ("item", "b")])

    def test_the_same_user(self):
        engine, releases = office()
        releases.offer("ann", "high", high(4), "low", (), 0)
        before = all_seen(engine)
        self.assertEqual(self.refusal(SameUser, releases.approve, "ann", "high", 1), "ann")
        self.assertEqual(all_seen(engine), before)
        self.assertEqual(releases.approve("bob", "high", 1), low(4))
        self.assertEqual(self.refusal(NoOffer, releases.approve, "ann", "high", 1), 1)

    def test_withdrawn_offers(self):
        engine, releases = office()
        releases.offer("ann", "high", high(4), "low", (), 0)
        self.assertEqual(self.refusal(NoRight, releases.withdraw, "bob", "high", 1), "bob")
        self.assertEqual(len(list(releases.offers("bob", "high"))), 1)
        self.assertIsNone(releases.withdraw("ann", "high", 1))
        self.assertEqual(list(releases.offers("bob", "high")), [])
        for act in (releases.approve, releases.withdraw):
            self.assertEqual(self.refusal(NoOffer, act, "bob", "high", 1), 1)
        self.assertEqual(releases.offer("ann", "high", high(4), "low", (), 0), 2)

    def test_an_approval_that_is_refused_leaves_the_offer_open(self):
        engine, releases = office(limit=6)
        releases.offer("ann", "high", high(1), "low", low(1), 1)
        releases.offer("ann", "high", high(4), "low", low(1), 1)
        releases.offer("ann", "high", high(1), "low", (), 0)
        told(engine, "low", ("delete", low(2)))
        before = all_seen(engine)
        self.assertEqual(self.refusal(Refused, releases.approve, "bob", "high", 1), ("place", 1))
        told(engine, "low", ("delete", low(1)))
        self.assertEqual(self.refusal(Refused, releases.approve, "bob", "high", 2), ("name", low(1)))
        told(engine, "low", ("undo",), ("undo",))
        told(engine, "low", ("insert", (), 0, "line", ""))
        before = all_seen(engine)
        self.assertEqual(self.refusal(Refused, releases.approve, "bob", "high", 3), ("full", 6))
        self.assertEqual(all_seen(engine), before)
        self.assertEqual([row[0] for row in releases.offers("bob", "high")], [1, 2, 3])
        told(engine, "low", ("delete", low(4)))
        self.assertEqual(releases.approve("bob", "high", 1), low(5))
        self.assertEqual([row[0] for row in releases.offers("bob", "high")], [2, 3])

    def test_offers_that_would_be_full_are_taken(self):
        engine, releases = office(limit=4)
        told(engine, "low", ("insert", (), 0, "line", ""))
        self.assertEqual(releases.offer("ann", "high", high(1), "low", (), 0), 1)
        self.assertEqual(self.refusal(Refused, releases.approve, "bob", "high", 1), ("full", 4))

    def test_levels_and_rights(self):
        engine, releases = office()
        releases.offer("ann", "high", high(4), "low", (), 0)
        before = list(releases.offers("bob", "high"))
        acts = [lambda user, level: releases.offer(user, level, None, None, None, None),
                lambda user, level: releases.approve(user, level, None), lambda user, level: releases.withdraw(user, level, None),
                lambda user, level: list(releases.offers(user, level))]
        for act in acts:
            for level in NO_LEVELS:
                for user in ("ann", "eve", None):
                    self.assertIs(self.refusal(InvalidLevel, act, user, level), level)
            for user in NO_USERS:
                self.assertIs(self.refusal(NoRight, act, user, "low"), user)
            for user, level in [("bob", "low"), ("cid", "high"), ("dan", "low"), ("dan", "high")]:
                self.assertEqual(self.refusal(NoRight, act, user, level), user)
        self.assertEqual(list(releases.offers("bob", "high")), before)

    def test_offers_are_checked_when_the_iteration_begins(self):
        engine, releases = office()
        for row in [releases.offers("bob", "none"), releases.offers("eve", "low")]:
            with self.assertRaises((InvalidLevel, NoRight)):
                list(row)

    def test_numbers_that_are_none(self):
        engine, releases = office()
        releases.offer("ann", "high", high(4), "low", (), 0)
        for act in (releases.approve, releases.withdraw):
            for number in NO_NUMBERS:
                for user in ("ann", "bob"):
                    self.assertIs(self.refusal(NoOffer, act, user, "high", number), number)
            self.assertEqual(self.refusal(NoOffer, act, "ann", "low", 1), 1)
        self.assertEqual(len(list(releases.offers("bob", "high"))), 1)

    def test_offers_that_are_refused_in_their_order(self):
        engine = diamond()
        told(engine, "low", ("pocket", (), 0, "east", ""), ("pocket", (), 1, "top", ""), ("insert", (), 2, "line", ""),
             ("pocket", (), 3, "west", ""))
        told(engine, "east", ("insert", low(1), 0, "list", ""))
        told(engine, "top", ("insert", low(2), 0, "list", ""), ("insert", (("top", "", 1),), 0, "line", ""))
        told(engine, "east", ("pocket", (("east", "", 1),), 0, "top", ""))
        releases = Releases(engine, {"ann": engine.levels.names()})
        top, east, away = (("top", "", 1),), (("east", "", 1),), (("none", "", 1),)
        for level, name, to, holder, place, due in [
            ("top", away, None, away, -1, ("name", away)), ("east", top, None, away, -1, ("name", top)),
            ("top", (), "low", (), 0, ("name", ())), ("top", low(3), None, away, -1, ("own", low(3))),
            ("top", east, None, away, -1, ("own", east)), ("east", east, None, away, -1, ("closed", (("east", "", 2),))),
            ("top", top, None, away, -1, ("above", None)), ("top", top, "top", (), 0, ("above", "top")),
            ("top", top, "none", away, -1, ("above", "none")), ("top", top, ["low"], away, -1, ("above", ["low"])),
            ("top", top, True, away, -1, ("above", True)), ("top", top, "low", away, -1, ("name", away)),
            ("top", top, "low", east, 0, ("name", east)), ("top", top, "low", low(1), 0, ("name", low(1))),
            ("top", top, "east", (), 9, ("own", ())), ("top", top, "east", low(3), 0, ("own", low(3))),
            ("top", top, "low", (), 5, ("place", 5)), ("top", top, "low", (), -1, ("place", -1)),
            ("top", top, "low", low(3), 1, ("place", 1)), ("top", top, "west", low(4), 1, ("place", 1)),
        ]:
            self.assertEqual(self.refusal(Refused, releases.offer, "ann", level, name, to, holder, place), due)
        self.assertEqual(list(releases.offers("ann", "top")), [])
        self.assertEqual(releases.offer("ann", "top", top, "west", low(4), 0), 1)
        self.assertEqual(self.refusal(Refused, releases.offer, "ann", "low", low(3), "low", (), 0), ("above", "low"))
        self.assertEqual(self.refusal(Refused, releases.offer, "ann", "low", low(3), "east", low(1), 0), ("above", "east"))
        west = Releases(engine, {"ann": ["west"]})
        told(engine, "west", ("insert", low(4), 0, "line", ""))
        self.assertEqual(self.refusal(Refused, west.offer, "ann", "west", (("west", "", 1),), "east", low(1), 0),
                         ("above", "east"))

    def test_the_offers_can_be_closed_while_one_goes_through_them(self):
        engine, releases = office()
        for _ in range(3):
            releases.offer("ann", "high", high(4), "low", (), 0)
        for number, *rest in releases.offers("ann", "high"):
            releases.withdraw("ann", "high", number)
        self.assertEqual(list(releases.offers("ann", "high")), [])

    def test_rights_are_copied_and_the_engine_is_not(self):
        engine = two_levels()
        rights = {"ann": ["low"], "bob": ["low"]}
        releases = Releases(engine, rights)
        rights["ann"].clear()
        del rights["bob"]
        self.assertEqual([list(releases.offers(user, "low")) for user in ("ann", "bob")], [[], []])
        rights["eve"] = ["low"]
        self.assertEqual(self.refusal(NoRight, lambda: list(releases.offers("eve", "low"))), "eve")
        self.assertIs(releases.engine, engine)


class TellingTests(unittest.TestCase):
    """[4] (a): what is told comes from levels below alone; a release stays as the deed of the lower level."""

    def outcome(self, act, *parts):
        try:
            return ("told", act(*parts))
        except (Refused, NoOffer, SameUser, NoRight) as error:
            return (error.__class__.__name__, getattr(error, "word", None), error.value)

    def call(self, engine, releases, call):
        word, level, *parts = call
        if word == "deed":
            return engine.perform(level, parts[0])
        if word == "offers":
            return list(releases.offers("ann", level))
        acts = {"offer": releases.offer, "approve": releases.approve, "withdraw": releases.withdraw}
        return self.outcome(acts[word], parts[0], level, *parts[1:])

    def random_calls(self, chance, engine, releases, deeds):
        levels, model = engine.levels, Model(engine.levels)
        first = [("low", ("pocket", (), 0, inner, "")) for inner in levels.ups("low")[1:]]
        first += [(inner, ("insert", low(at + 1), 0, "list", inner)) for at, inner in enumerate(levels.ups("low")[1:])]
        for level, deed in first:
            model.perform(level, deed)
            yield ("deed", level, deed)
        for _ in range(60):
            level, user = chance.choice(levels.names()), chance.choice(["ann", "bob"])
            word = chance.choice(["deed", "deed", "offer", "offer", "offer", "approve", "approve", "withdraw", "offers"])
            if word == "deed":
                deed = deeds.deed(model, level)
                model.perform(level, deed)
                yield (word, level, deed)
            elif word == "offer":
                to, view = chance.choice(levels.downs(level)), engine.view(level)
                names = [name for name in view.walk() if view[name][2] == level and view[name][3] is None]
                yield (word, level, user, chance.choice([*names, ()]), to, chance.choice([deeds.holder(model, to), ()]), 0)
            elif word == "offers":
                yield (word, level)
            else:
                yield (word, level, user, chance.choice([*releases.waiting[level], 1]))

    def test_random_histories(self):
        approved = 0
        for seed in range(60):
            levels = diamond().levels
            deeds, rights = Deeds(seed, levels), {"ann": levels.names(), "bob": levels.names()}
            engine, rows = Engine(levels), []
            releases = Releases(engine, rights)
            for call in self.random_calls(deeds.random, engine, releases, deeds):
                offer = releases.waiting[call[1]].get(call[3]) if call[0] == "approve" else None
                rows.append((call, offer, self.call(engine, releases, call)))
                approved += offer is not None and rows[-1][2][0] == "told"
            for level in levels.names():
                alone = Engine(levels)
                others = Releases(alone, rights)
                for call, offer, answer in rows:
                    if levels.leq(call[1], level):
                        self.assertEqual(self.call(alone, others, call), answer, (seed, level, call))
                    elif offer is not None and levels.leq(offer[2], level) and answer[0] == "told":
                        self.assertEqual(alone.perform(offer[2], ("typed", offer[1], offer[3], offer[4])), answer)
                self.assertEqual(seen_of(alone, level), seen_of(engine, level))
        self.assertGreater(approved, 30)


if __name__ == "__main__":
    unittest.main()
