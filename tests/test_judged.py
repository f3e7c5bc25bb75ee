"""Runs judged: points 35 and 36."""

import random
import unittest

from farcalls.judged import first_odd
from farcalls.near import Near
from helpers import Case, anything
from web import PLAN, WORDS

CELL, OTHER = ("make", "0#0", "node", ()), ("make", "1#0", "node", (5,))


def to(name):
    return ("to", name)


def kept(worth=None):
    return ("kept", worth)


def call(name, thing, word, *args):
    return ("call", name, thing, word, args)


def row(name, thing, word, args, outcome, says=()):
    return (name, thing, word, args, outcome, says)


class Judged(Case):
    def odd(self, at, outer, *acts, lost=()):
        """The first odd one of these acts is at this place."""
        self.told(first_odd(PLAN, outer, list(acts), lost=lost), at)

    def test_no_list(self):
        for thing in anything():
            with self.subTest(thing):
                if isinstance(thing, list):
                    self.told(first_odd(PLAN, [CELL], thing), 0 if thing else None)
                else:
                    self.told(first_odd(PLAN, [CELL], thing), 0)
                self.odd(0, [CELL, call("0:0", "0#0", "get")], thing)
        self.odd(None, [])

    def test_one_act(self):
        outer = [OTHER, call("1:0", "1#0", "get")]
        good = row("1:0", "1#0", "get", (), kept(5))
        self.odd(None, outer, good)
        self.odd(None, outer)
        for at in range(6):
            for thing in anything() + [good[at] + good[at] if isinstance(good[at], tuple) and good[at] else "zz"]:
                if not (at in (3, 5) and thing == ()):
                    self.odd(0, outer, good[:at] + (thing,) + good[at + 1:])
        self.odd(0, outer, good[:5])
        self.odd(0, outer, good + (None,))
        self.odd(0, outer, list(good))
        self.odd(1, outer, good, good)
        self.odd(0, outer, row("1:1", "1#0", "get", (), kept(5)))
        self.odd(0, outer, row("1:0", "0#0", "get", (), kept(5)))
        self.odd(0, [CELL, *outer], row("1:0", "0#0", "get", (), kept(5)))

    def test_kind_for_kind(self):
        outer = [("make", "0#0", "node", (1,)), call("0:0", "0#0", "get"), call("0:1", "0#0", "put", (1, 0))]
        self.odd(0, outer, row("0:0", "0#0", "get", (), kept(True)))
        self.odd(0, outer, row("0:0", "0#0", "get", (), ["kept", 1]))
        good = row("0:0", "0#0", "get", (), kept(1))
        self.odd(1, outer, good, row("0:1", "0#0", "put", ((True, 0),), kept()))
        self.odd(1, outer, good, row("0:1", "0#0", "put", ([1, 0],), kept()))
        self.odd(1, outer, good, row("0:1", "0#0", "put", [(1, 0)], kept()))
        self.odd(None, outer, good, row("0:1", "0#0", "put", ((1, 0),), kept()))

    def test_words_that_are_not_known(self):
        outer = [CELL, call("0:0", "0#0", "zz")]
        self.odd(None, outer, row("0:0", "0#0", "zz", (), ("broken", "odd")))
        self.odd(0, outer, row("0:0", "0#0", "yy", (), ("broken", "odd")))
        self.odd(0, outer, row("0:0", "0#0", "zz", (1,), ("broken", "odd")))

    def test_names_that_are_not_there(self):
        self.odd(0, [CELL, call("0:0", "0:7", "get")], row("0:0", "0#0", "get", (), kept()))
        self.odd(0, [CELL, call("0:0", "0#7", "get")], row("0:0", "0#7", "get", (), kept()))

    def test_fields_and_says(self):
        outer = [CELL, call("0:0", "0#0", "put", 7), call("0:1", "0#0", "get"), call("0:2", "0#0", "seen", 1, 2)]
        acts = [row("0:0", "0#0", "put", (7,), kept()), row("0:1", "0#0", "get", (), kept(7))]
        self.odd(None, outer, *acts, row("0:2", "0#0", "seen", (1, 2), kept(2), ((1, 2),)))
        self.odd(2, outer, *acts, row("0:2", "0#0", "seen", (1, 2), kept(2)))
        self.odd(1, outer, acts[0], row("0:1", "0#0", "get", (), kept(None)))
        self.odd(1, [CELL, call("0:0", "0#0", "none"), call("0:1", "0#0", "get")],
                 row("0:0", "0#0", "none", (), ("broken", "odd")), row("0:1", "0#0", "get", (), kept(1)))

    def test_order_of_the_outside_of_one_house(self):
        outer = [CELL, call("0:0", "0#0", "self"), call("0:1", "0#0", "get"), call("1:0", "0#0", "get")]
        one, two, far = (row("0:0", "0#0", "self", (), kept(to("0#0"))), row("0:1", "0#0", "get", (), kept()),
                         row("1:0", "0#0", "get", (), kept()))
        self.odd(None, outer, one, two, far)
        self.odd(None, outer, far, one, two)
        self.odd(0, outer, two, one)
        self.odd(1, outer, far, two)
        self.odd(None, outer, two, far, lost=("0:0",))
        self.odd(None, outer, two, one, lost=("0:0",))
        self.odd(0, outer, two, one, lost=("0:1", "1:0"))

    def test_order_is_that_of_a_name(self):
        outer = [CELL, OTHER, call("0:0", "0#0", "self"), call("0:1", "1#0", "get"), call("0:2", "0:0", "get")]
        self.odd(None, outer, row("0:1", "1#0", "get", (), kept(5)), row("0:0", "0#0", "self", (), kept(to("0#0"))),
                 row("0:2", "0#0", "get", (), kept()))
        outer.append(call("0:3", "0:0", "self"))
        self.odd(1, outer, row("0:0", "0#0", "self", (), kept(to("0#0"))), row("0:3", "0#0", "self", (), kept(to("0#0"))))
        outer.append(call("0:4", "0#0", "get"))
        self.odd(None, outer, row("0:0", "0#0", "self", (), kept(to("0#0"))), row("0:4", "0#0", "get", (), kept()),
                 row("0:2", "0#0", "get", (), kept()))

    def test_order_of_acts_of_a_thing_between_its_moves(self):
        # the asker puts one call in each of three acts; behind its move to another house it is another one
        outer = [CELL, OTHER, call("0:0", "0#0", "ask", to("1#0")), call("0:1", "0#0", "go", 0),
                 call("0:2", "0#0", "ask", to("1#0")), call("0:3", "0#0", "go", 3), call("0:4", "0#0", "ask", to("1#0"))]
        acts = [row("0:0", "0#0", "ask", (to("1#0"),), kept(to("0:0.0"))), row("0:1", "0#0", "go", (0,), kept(to("0#0"))),
                row("0:2", "0#0", "ask", (to("1#0"),), kept(to("0:2.0"))), row("0:3", "0#0", "go", (3,), kept(to("0#0"))),
                row("0:4", "0#0", "ask", (to("1#0"),), kept(to("0:4.0")))]
        one, two, three = [row(f"0:{k}.0", "1#0", "get", (), kept(5)) for k in (0, 2, 4)]
        self.odd(None, outer, *acts, one, two, three)
        self.odd(None, outer, *acts, three, one, two)
        self.odd(5, outer, *acts, two, one, three)
        self.odd(6, outer, *acts, three, two)
        self.odd(None, outer, *acts, two, lost=("0:0.0",))

    def test_made_things_stand_where_their_maker_stood(self):
        outer = [("make", "0#0", "maker", ()), OTHER, call("0:0", "0#0", "go", 2), call("0:1", "0#0", "put", 5),
                 call("0:2", "0:1", "ask", to("1#0")), call("0:3", "0:1", "go", 2), call("0:4", "0:1", "ask", to("1#0"))]
        new = to("0:1#0")
        acts = [row("0:0", "0#0", "go", (2,), ("broken", "odd")), row("0:1", "0#0", "put", (5,), kept(new)),
                row("0:2", "0:1#0", "ask", (to("1#0"),), kept(to("0:2.0"))), row("0:3", "0:1#0", "go", (2,), kept(new)),
                row("0:4", "0:1#0", "ask", (to("1#0"),), kept(to("0:4.0")))]
        one, two = [row(f"0:{k}.0", "1#0", "get", (), kept(5)) for k in (2, 4)]
        # the maker's own one worth is no hold, so its go is broken and it stays at 0; the made one goes to 2
        self.odd(None, outer, *acts, two, one)
        outer[0] = ("make", "0#0", "maker", (to("1#0"),))
        acts[0] = row("0:0", "0#0", "go", (2,), kept(to("0#0")))
        # now it is at 2 when it makes, and to go to 2 is no move of the made one
        self.odd(5, outer, *acts, two, one)
        self.odd(None, outer, *acts, one, two)

    def test_promises(self):
        outer = [CELL, OTHER, call("0:0", "0#0", "ask", to("1#0")), call("0:1", "0:0", "get"), call("0:2", "0#0", "self"),
                 call("0:3", "0:2", "get"), call("0:4", "0:3", "get"), call("0:5", "0:4", "get")]
        ask, get = row("0:0", "0#0", "ask", (to("1#0"),), kept(to("0:0.0"))), row("0:0.0", "1#0", "get", (), kept(5))
        self.odd(0, outer, row("0:1", "0#0", "get", (), kept(5)))
        self.odd(1, outer, ask, row("0:1", "1#0", "get", (), kept(5)))
        self.odd(2, outer, ask, get, row("0:1", "1#0", "get", (), ("broken", "odd")))
        me = row("0:2", "0#0", "self", (), kept(to("0#0")))
        self.odd(0, outer, row("0:3", "0#0", "get", (), kept()))
        self.odd(None, outer, ask, me, row("0:3", "0#0", "get", (), kept()))
        self.odd(3, outer, ask, me, row("0:3", "0#0", "get", (), kept()), row("0:4", "0#0", "get", (), kept()))

    def test_hanging_rows(self):
        outer = [CELL, OTHER, call("0:0", "1#0", "put", to("0#0")), call("0:1", "0#0", "ask", to("1#0")),
                 call("0:2", "0:1", "self")]
        acts = [row("0:0", "1#0", "put", (to("0#0"),), kept()),
                row("0:1", "0#0", "ask", (to("1#0"),), kept(to("0:1.0"))),
                row("0:1.0", "1#0", "get", (), kept(to("0#0")))]
        me = row("0:2", "0#0", "self", (), kept(to("0#0")))
        self.odd(None, outer, *acts, me)
        self.odd(2, outer, *acts[:2], me)

    def test_rings(self):
        outer = [("make", "0#0", "maker", ()), call("0:0", "0#0", "self"), call("0:1", "0:0", "mine"),
                 call("0:2", "0#0", "mine"), call("0:3", "0:2", "self")]
        acts = [row("0:0", "0#0", "self", (), kept(to("0#0"))), row("0:0.0", "0#0", "mine", (), kept(to("0:0.0"))),
                row("0:2", "0#0", "mine", (), kept(to("0:0.0")))]
        self.odd(None, outer, *acts, row("0:1", "0#0", "mine", (), kept(to("0:0.0"))))
        self.odd(3, outer, *acts, row("0:3", "0#0", "self", (), kept(to("0#0"))))

    def test_whens(self):
        outer = [CELL, OTHER, call("0:0", "0#0", "watch", 7), call("1:0", "1#0", "get"),
                 call("0:1", "0#0", "watch", to("1:0")), call("1:1", "1#0", "bad"), call("0:2", "0#0", "watch", to("1:1"))]
        watch = [row("0:0", "0#0", "watch", (7,), kept()), row("0:1", "0#0", "watch", (to("1:0"),), kept()),
                 row("0:2", "0#0", "watch", (to("1:1"),), kept())]
        gets = [row("1:0", "1#0", "get", (), kept(5)), row("1:1", "1#0", "bad", (), ("broken", "odd"))]
        seen = [row("0:0.0", "0#0", "seen", (1, 7), kept(7), ((1, 7),)), row("0:1.0", "0#0", "seen", (1, 5), kept(5), ((1, 5),)),
                row("0:2.0", "0#0", "seen", (0, "odd"), kept("odd"), ((0, "odd"),))]
        self.odd(None, outer, *watch, *gets, *seen)
        self.odd(None, outer, *watch, *gets, *reversed(seen))
        self.odd(1, outer, watch[0], seen[1])
        self.odd(3, outer, *watch, seen[1])
        self.odd(None, outer, *watch, seen[0])
        lost = [row(f"0:{k}.0", "0#0", "seen", (0, "lost"), kept("lost"), ((0, "lost"),)) for k in range(3)]
        self.odd(5, outer, *watch, *gets, lost[1])
        self.odd(None, outer, *watch, *gets, lost[1], lost=("1:0",))
        self.odd(None, outer, *watch, *gets, seen[1], lost=("1:0",))
        self.odd(None, outer, *watch, lost[1], lost=("1:0",))
        self.odd(4, outer, *watch, lost[1], lost[2], lost=("1:0",))
        self.odd(1, outer, watch[0], lost[0], lost=("0:0", "1:0", "1:1"))

    def test_a_when_on_what_waits(self):
        # the first one is settled by a thing, so the second one goes on to that and is open yet
        outer = [CELL, OTHER, call("1:0", "1#0", "self"), call("1:1", "1:0", "get"), call("0:0", "0#0", "watch", to("1:1"))]
        acts = [row("0:0", "0#0", "watch", (to("1:1"),), kept()), row("1:0", "1#0", "self", (), kept(to("1#0")))]
        self.odd(2, outer, *acts, row("0:0.0", "0#0", "seen", (0, "odd"), kept("odd"), ((0, "odd"),)))
        self.odd(2, outer, *acts, row("0:0.0", "0#0", "seen", (1, to("1#0")), kept(to("1#0")), ((1, to("1#0")),)))
        self.odd(None, outer, *acts, row("1:1", "1#0", "get", (), kept(5)),
                 row("0:0.0", "0#0", "seen", (1, 5), kept(5), ((1, 5),)))

    def test_a_when_on_what_waits_for_a_lost_one(self):
        outer = [CELL, OTHER, call("1:0", "1#0", "self"), call("1:1", "1:0", "get"), call("0:0", "0#0", "watch", to("1:1"))]
        watch = row("0:0", "0#0", "watch", (to("1:1"),), kept())
        seen = row("0:0.0", "0#0", "seen", (0, "lost"), kept("lost"), ((0, "lost"),))
        self.odd(1, outer, watch, seen, lost=("1:0",))
        self.odd(None, outer, watch, seen, lost=("1:0", "1:1"))

    def test_a_when_takes_no_place_among_others(self):
        outer = [CELL, OTHER, call("1:0", "1#0", "get"), call("0:0", "0#0", "watch", to("1:0")),
                 call("0:1", "0#0", "tell", to("0#0"), 3)]
        acts = [row("0:0", "0#0", "watch", (to("1:0"),), kept()),
                row("0:1", "0#0", "tell", (to("0#0"), 3), kept(to("0:1.1"))), row("0:1.0", "0#0", "put", (3,), kept())]
        self.odd(None, outer, *acts)

    def test_drawn_near_runs(self):
        done = 0
        for seed in range(20):
            near, outer, draw = Near(PLAN), [], random.Random(seed)
            held = []
            for _ in range(30):
                if draw.random() < 0.2 or not held:
                    args = tuple(of_near(draw, held) for _ in range(draw.randrange(3)))
                    kind = draw.choice(["node", "maker"])
                    name = near.make(kind, args=args)
                    outer.append(("make", name, kind, args))
                else:
                    word, count = draw.choice(WORDS)
                    args, target = tuple(of_near(draw, held) for _ in range(count)), draw.choice(held)
                    name = near.call(target, word, args=args)
                    outer.append(("call", name, target, word, args))
                held.append(name)
            acts = near.turns(300)
            done += len(acts)
            self.told(first_odd(PLAN, outer, acts), None)
            at = draw.randrange(len(acts))
            self.told(first_odd(PLAN, outer, acts[:at] + [acts[at][:4] + (("kept", "zz"), ())] + acts[at + 1:]), at)
            self.told(first_odd(PLAN, outer, acts[:at] + acts[:1] + acts[at:]), at if at else 1)
        self.assertGreater(done, 200)

    def test_long_rows(self):
        outer = [CELL, call("0:0", "0#0", "self")] + [call(f"0:{k}", f"0:{k - 1}", "self") for k in range(1, 400)]
        acts = [row(f"0:{k}", "0#0", "self", (), kept(to("0#0"))) for k in range(400)]
        self.odd(None, outer, *acts)
        waiting = [CELL, call("0:0", "0#0", "none")] + outer[2:] + [call("1:0", "0#0", "watch", to("0:399"))]
        self.odd(None, waiting, row("0:0", "0#0", "none", (), ("broken", "odd")),
                 row("1:0", "0#0", "watch", (to("0:399"),), kept()),
                 row("1:0.0", "0#0", "seen", (0, "odd"), kept("odd"), ((0, "odd"),)))

    def test_nothing_handed_in_is_changed(self):
        outer, acts = [CELL, call("0:0", "0#0", "put", 7)], [row("0:0", "0#0", "put", (7,), kept())]
        first_odd(PLAN, outer, acts)
        self.told(outer, [CELL, call("0:0", "0#0", "put", 7)])
        self.told(acts, [row("0:0", "0#0", "put", (7,), kept())])


def of_near(draw, held):
    """Something that can be handed in."""
    return ("to", draw.choice(held)) if held and draw.random() < 0.7 else draw.choice([None, 3, "w", (1, ())])


if __name__ == "__main__":
    unittest.main()
