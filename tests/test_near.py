"""The plain rule: points 8 and 9, and of point 12 how make and call are told and refused."""

import copy
import sys
import unittest

from farcalls.errors import BadArgs, BadPlan, NoKind, NoName
from farcalls.near import Near
from helpers import Case, anything

ME, A, B = ("me",), ("var", "a"), ("var", "b")

PLAN = (
    ("cell", (("have", 0), ("more", ("x", 1))), (
        ("get", (), (("give", ("own", "have")),)),
        ("put", ("a",), (("set", "have", A),)),
        ("echo", ("a",), (("say", A), ("give", A))),
        ("self", (), (("give", ME),)),
        ("fail", (), (("fail", "sad"),)),
        ("watch", ("a",), (("when", A, "seen", (("is", "w"), ("own", "have"))),)),
        ("seen", ("a", "b", "c", "d"), (("say", ("row", A, B)), ("give", B))),
        ("spawn", ("a",), (("make", "v", "cell", (A,)), ("give", ("var", "v")))),
    )),
    ("odd", (("held", None),), (
        ("wreck", ("a",), (("make", "v", "cell", ()), ("call", "w", A, "get", ()), ("when", A, "seen", ()),
                           ("say", ("is", 1)), ("move", 3), ("fail", "mad"))),
        ("go", (), (("move", 3), ("give", ("is", 1)))),
        ("ask", ("a",), (("call", "v", A, "get", ()), ("give", ("var", "v")))),
        ("tell", ("a", "b"), (("call", "v", A, "echo", (B,)),)),
        ("mine", (), (("call", "v", ME, "back", ()), ("give", ("var", "v")))),
        ("back", (), (("give", ("is", 9)),)),
        ("hold", ("a",), (("set", "held", A),)),
        ("loop", (), (("call", "v", ("own", "held"), "back", ()), ("give", ME))),
    )),
    ("many", (), (
        ("all", ("a",), (("when", A, "seen", ()), ("call", "v", A, "self", ()), ("make", "t", "cell", ()),
                         ("call", "w", ("var", "t"), "get", ()), ("when", ("is", 1), "seen", ()),
                         ("call", "x", ("var", "v"), "get", ()), ("give", ("var", "t")))),
        ("seen", ("a", "b"), (("give", ("row", A, B)),)),
        ("wide", ("a",), (("when", A, "five", (("is", 3), ("is", 4), ("is", 5))),)),
        ("five", ("a", "b", "c", "d", "e"), (("say", ("row", A, B, ("var", "c"), ("var", "d"), ("var", "e"))),)),
        ("later", ("a",), (("when", A, "undo", ()), ("when", A, "seen", ()))),
        ("undo", ("a", "b"), (("fail", "bad"),)),
    )),
)


def to(name):
    """The hold of a name."""
    return ("to", name)


class Run(Case):
    """Runs with a cell `0#0`."""

    def setUp(self):
        self.near = Near(PLAN)
        self.cell = self.near.make("cell")

    def call(self, name, word, *args):
        return self.near.call(name, word, args=args)

    def turned(self, call, word, args, outcome, says=(), thing="0#0"):
        """The next turn is this act."""
        self.told(self.near.turn(), (call, thing, word, args, outcome, says))

    def late(self):
        """An open promise that is settled when a call behind all that stands in the line now acts."""
        return self.call(self.call(self.cell, "self"), "get")

    def settled(self, name, *outcome):
        self.told(self.near.settled(name), outcome)

    def lined(self, *calls):
        self.told(self.near.line(), list(calls))
        self.assertEqual(len(self.near), len(calls))


class Made(Case):
    def test_bad_plans_of_anything(self):
        for thing in anything():
            with self.subTest(thing):
                self.refused(BadPlan, {"word": None}, Near, thing)
                if not isinstance(thing, tuple):
                    self.refused(BadPlan, {"at": None, "word": None}, Near, thing)
        self.refused(BadPlan, {"at": 1, "word": "m"}, Near, (("a", (), ()), ("b", (), (("m", (), (None,)),))))

    def test_new_one(self):
        near = Near(PLAN)
        self.told(near.things(), [])
        self.told(near.line(), [])
        self.told(near.turn(), None)
        self.told(near.turns(), [])
        self.assertEqual(len(near), 0)

    def test_names(self):
        near = Near(PLAN)
        self.told([near.make("cell"), near.make("odd"), near.make("cell", args=(1,))], ["0#0", "0#1", "0#2"])
        self.told([near.call("0#0", "get"), near.call("0#2", "get"), near.call("0:0", "get")], ["0:0", "0:1", "0:2"])
        self.told(near.make("cell"), "0#3")

    def test_fields(self):
        near = Near(PLAN)
        for k, (args, fields) in enumerate((
                ((), {"have": 0, "more": ("x", 1)}), ((None,), {"have": None, "more": ("x", 1)}),
                ((5, to("0#0")), {"have": 5, "more": to("0#0")}))):
            self.told(near.stands(near.make("cell", args=args)), ("cell", fields))
        self.told(near.stands(near.make("many")), ("many", {}))

    def test_make_refused(self):
        near = Near(PLAN)
        for thing in anything():
            with self.subTest(thing):
                self.refused(NoKind, {"kind": thing}, near.make, thing)
                self.refused(NoKind, {"kind": thing}, near.make, thing, args=None)
        for args in ((1, 2, 3), (True,), (1, True), [], [1], None, 0, "", "a", {}, (10 ** 9,), ("A",), ("0#0",), to("0#0"),
                     (((((),),),),), ((1, 2, 3, 4, 5, 6),), ([],), (to("0:01"),), (to("6#0"),), (to("0#9"), 1, 1)):
            with self.subTest(args):
                self.refused(BadArgs, {"asked": args}, near.make, "cell", args=args)
        for args in ((1,), (to("0#9"),), (None,)):
            self.refused(BadArgs, {"asked": args}, near.make, "many", args=args)
        self.told(near.make("cell"), "0#0")
        self.told(near.things(), ["0#0"])

    def test_args_of_anything(self):
        near = Near(PLAN)
        cell = near.make("cell")
        for thing in anything():
            with self.subTest(thing):
                if thing in ((None,), ("a",), ()):
                    self.assertIsInstance(near.make("cell", args=thing), str)
                    self.assertIsInstance(near.call(cell, "get", args=thing), str)
                elif thing == (to("0#9"),):
                    self.refused(NoName, {"name": "0#9"}, near.make, "cell", args=thing)
                    self.refused(NoName, {"name": "0#9"}, near.call, cell, "get", args=thing)
                else:
                    self.refused(BadArgs, {"asked": thing}, near.make, "cell", args=thing)
                    self.refused(BadArgs, {"asked": thing}, near.call, cell, "get", args=thing)

    def test_make_refused_for_the_first_hold_that_is_not_there(self):
        near = Near(PLAN)
        near.make("cell")
        near.call("0#0", "get")
        for args, name in (((to("0#1"),), "0#1"), ((to("0:0"), to("0:1")), "0:1"), ((to("1#0"), to("0#7")), "1#0"),
                           (((1, (to("0#0"), (to("0:0.1"),))), to("0#7")), "0:0.1"), ((to("0:0#0"),), "0:0#0"),
                           ((to("0:" + "1" * 398),), "0:" + "1" * 398)):
            with self.subTest(args):
                self.refused(NoName, {"name": name}, near.make, "cell", args=args)
                self.refused(NoName, {"name": name}, near.call, "0#0", "get", args=args)
        args = (to("0:" + "1" * 399),)
        self.refused(BadArgs, {"asked": args}, near.make, "cell", args=args)
        self.told(near.make("cell", args=(to("0#0"), ((to("0:0"),),))), "0#1")
        self.told(near.call("0#0", "get"), "0:1")

    def test_what_is_no_name_is_no_hold(self):
        near = Near(PLAN)
        for name in ("", "0", "#0", ":0", "0#", "0:", "00#0", "6#0", "-1#0", "0#00", "0#01", "0:00", "0:01", "0:0.", "0:0.01",
                     "0:0..1", "0:0#", "0:0#0.1", "0:0#0#0", "0#0.1", "0#0:1", "0.0", "0:0:0", "0 #0", " 0#0", "0#0 ", "0#-1",
                     "0#0\n", "0:a", "a#0", "0:1.#0", "A", "abcdefghi", True, [], {}, "012#0", "7:0", "9#1"):
            with self.subTest(name):
                self.refused(BadArgs, {"asked": (to(name),)}, near.make, "cell", args=(to(name),))
        for name in ("0#0", "5#0", "0#10", "3:10", "0:0", "0:0.0", "1:2.30.4", "0:0#0", "2:3.4.5#67"):
            with self.subTest(name):
                self.refused(NoName, {"name": name}, near.make, "cell", args=(to(name),))
        for house in range(6):
            for name in (f"{house}#8", f"{house}:8", f"{house}:8.0", f"{house}:8.0#0"):
                self.refused(NoName, {"name": name}, near.make, "cell", args=(to(name),))
        for part in (("a", "0#0"), ("at", "0#0"), (None, "0#0"), ("to", "0#0", "0#0"), ("to", "0#0", 1), ("0#0", "to"),
                     ("0#0",), ["to", "0#0"]):
            self.refused(BadArgs, {"asked": (part,)}, near.make, "cell", args=(part,))
        for n, part in enumerate(("abc", "to", None, 0, (), ("a",))):
            self.told(near.make("cell", args=(("to", part), (("to", part),))), f"0#{n}")

    def test_lists_told_are_the_asker_s_own(self):
        near = Near(PLAN)
        near.make("cell")
        near.call("0#0", "get")
        near.things().append("x")
        near.line().append("x")
        near.stands("0#0")[1]["have"] = "x"
        self.told(near.things(), ["0#0"])
        self.told(near.line(), ["0:0"])
        self.told(near.stands("0#0"), ("cell", {"have": 0, "more": ("x", 1)}))
        near.turns().append("x")
        self.told(near.turns(), [])

    def test_the_plan_stays(self):
        plan = copy.deepcopy(PLAN)
        near = Near(plan)
        near.make("cell", args=(1,))
        near.call("0#0", "put", args=(5,))
        near.turns()
        self.told(plan, PLAN)
        self.told(near.stands(near.make("cell")), ("cell", {"have": 0, "more": ("x", 1)}))

    def test_two_runs_are_two(self):
        one, other = Near(PLAN), Near(PLAN)
        one.make("cell")
        self.told(other.things(), [])
        self.told(other.make("odd"), "0#0")

    def test_things_rising(self):
        near = Near(PLAN)
        for _ in range(12):
            near.make("cell")
        near.call("0#0", "spawn", args=(1,))
        near.turns()
        self.told(near.things(), ["0#0", "0#1", "0#10", "0#11"] + [f"0#{n}" for n in range(2, 10)] + ["0:0#0"])


class Calls(Run):
    def test_refused_names_of_anything(self):
        self.call(self.cell, "get")
        for thing in anything():
            if thing not in ("0:0", "0#0"):
                with self.subTest(thing):
                    self.refused(NoName, {"name": thing}, self.near.call, thing, "get")
                    self.refused(NoName, {"name": thing}, self.near.call, thing, None, args=None)
        for name in ("0:1", "0#1", "1#0", "1:0", "0:0.0", "0:0#0", to("0#0")):
            self.refused(NoName, {"name": name}, self.near.call, name, "get", args=(to("0#9"),))
        self.lined("0:0")

    def test_refused_words_of_anything(self):
        for thing in anything():
            if thing not in ("a", "abcdefgh", "to"):
                with self.subTest(thing):
                    self.refused(BadArgs, {"asked": thing}, self.near.call, self.cell, thing)
                    self.refused(BadArgs, {"asked": thing}, self.near.call, self.cell, thing, args=[thing])
                    self.refused(BadArgs, {"asked": thing}, self.near.call, self.cell, thing, args=(to("0#9"),))
        self.told(self.call(self.cell, "nothing"), "0:0")

    def test_refused_args(self):
        for args in ((1, 2, 3, 4, 5, 6), (True,), [], [1], None, 0, "", "a", {}, (10 ** 9,), ("A",), ("0#0",), to("0#0"),
                     (((((),),),),), (to("0#9"), True), (to("0#9"), 1, 2, 3, 4, 5)):
            with self.subTest(args):
                self.refused(BadArgs, {"asked": args}, self.near.call, self.cell, "get", args=args)
        self.told(self.near.call(self.cell, "get", args=(1, 2, 3, 4, 5)), "0:0")
        self.told(self.near.call(self.cell, "get", args=(999999999, -999999999, (((to("0#0"),),),), None, "abcdefgh")), "0:1")

    def test_in_the_order_in_which_they_are_put(self):
        odd = self.near.make("odd")
        self.call(self.cell, "put", 5)
        self.call(odd, "back")
        self.call(self.cell, "get")
        self.lined("0:0", "0:1", "0:2")
        self.turned("0:0", "put", (5,), ("kept", None))
        self.lined("0:1", "0:2")
        self.turned("0:1", "back", (), ("kept", 9), thing="0#1")
        self.turned("0:2", "get", (), ("kept", 5))
        self.lined()
        self.told(self.near.turn(), None)

    def test_row_of_an_act(self):
        self.call(self.cell, "echo", (1, to("0#0")))
        self.turned("0:0", "echo", ((1, to("0#0")),), ("kept", (1, to("0#0"))), ((1, to("0#0")),))

    def test_odd_words_act_and_are_broken(self):
        self.call(self.cell, "nothing", 1)
        self.call(self.cell, "get", 1)
        self.turned("0:0", "nothing", (1,), ("broken", "odd"))
        self.turned("0:1", "get", (1,), ("broken", "odd"))
        self.settled("0:1", "broken", "odd")

    def test_turns(self):
        for _ in range(5):
            self.call(self.cell, "self")
        self.told([row[0] for row in self.near.turns(2)], ["0:0", "0:1"])
        self.told(self.near.turns(0), [])
        self.lined("0:2", "0:3", "0:4")
        self.told(self.near.turns(10), [(f"0:{n}", "0#0", "self", (), ("kept", to("0#0")), ()) for n in (2, 3, 4)])
        self.told(self.near.turns(1), [])

    def test_turns_are_four_hundred_where_left_out(self):
        for _ in range(401):
            self.call(self.cell, "get")
        self.assertEqual(len(self.near.turns()), 400)
        self.lined("0:400")

    def test_settled(self):
        self.call(self.cell, "echo", "x")
        self.call(self.cell, "fail")
        self.settled("0:0", "open")
        self.near.turns()
        self.settled("0:0", "kept", "x")
        self.settled("0:1", "broken", "sad")

    def test_settled_of_no_call(self):
        self.call(self.cell, "get")
        for _ in range(2):
            for thing in anything():
                if thing != "0:0":
                    with self.subTest(thing):
                        self.refused(NoName, {"name": thing}, self.near.settled, thing)
            for name in ("0#0", "0:1", "0:0.0", to("0:0")):
                self.refused(NoName, {"name": name}, self.near.settled, name)
            self.near.turns()

    def test_stands_of_no_thing(self):
        self.call(self.cell, "get")
        for thing in anything():
            if thing != "0#0":
                with self.subTest(thing):
                    self.refused(NoName, {"name": thing}, self.near.stands, thing)
        for name in ("0:0", "0#1", to("0#0")):
            self.refused(NoName, {"name": name}, self.near.stands, name)

    def test_a_fault_leaves_nothing(self):
        odd = self.near.make("odd")
        self.call(odd, "wreck", to(self.cell))
        self.turned("0:0", "wreck", (to("0#0"),), ("broken", "mad"), thing=odd)
        self.told(self.near.things(), ["0#0", "0#1"])
        self.lined()
        for name in ("0:0.0", "0:0.1"):
            self.refused(NoName, {"name": name}, self.near.settled, name)

    def test_move_does_nothing(self):
        odd = self.near.make("odd")
        self.call(odd, "go")
        self.call(odd, "go")
        self.turned("0:0", "go", (), ("kept", 1), thing=odd)
        self.told(self.near.things(), ["0#0", "0#1"])
        self.turned("0:1", "go", (), ("kept", 1), thing=odd)
        self.told(self.near.stands(odd), ("odd", {"held": None}))

    def test_fields_stay_from_act_to_act(self):
        self.call(self.cell, "put", 1)
        self.call(self.cell, "put", (2, to("0#0")))
        self.near.turn()
        self.told(self.near.stands(self.cell), ("cell", {"have": 1, "more": ("x", 1)}))
        self.near.turn()
        self.told(self.near.stands(self.cell), ("cell", {"have": (2, to("0#0")), "more": ("x", 1)}))

    def test_what_acts_make_is_held_outside_too(self):
        self.call(self.cell, "spawn", 7)
        self.call(self.near.make("odd"), "tell", to(self.cell), 1)
        self.near.turns()
        self.told(self.near.stands("0:0#0"), ("cell", {"have": 7, "more": ("x", 1)}))
        self.settled("0:1.0", "kept", 1)
        self.call("0:0#0", "put", to("0:1.0"))
        self.call("0:1.0", "get")
        self.turned("0:2", "put", (to("0:1.0"),), ("kept", None), thing="0:0#0")
        self.settled("0:3", "broken", "odd")

    def test_a_promise_and_its_thing_are_two_names(self):
        first = self.call(self.cell, "self")
        self.call(first, "echo", 1)
        self.call(self.cell, "echo", 2)
        self.told([row[0] for row in self.near.turns()], ["0:0", "0:2", "0:1"])


class Waiting(Run):
    def test_on_a_thing_to_come(self):
        p = self.call(self.cell, "spawn", 5)
        self.call(p, "get")
        self.call(self.cell, "get")
        self.lined("0:0", "0:2")
        self.settled("0:1", "open")
        self.near.turn()
        self.lined("0:2", "0:1")
        self.settled("0:1", "open")
        self.near.turn()
        self.turned("0:1", "get", (), ("kept", 5), thing="0:0#0")
        self.settled("0:1", "kept", 5)

    def test_on_one_that_has_become_a_thing(self):
        p = self.call(self.cell, "self")
        self.near.turn()
        self.call(self.cell, "get")
        self.call(p, "get", )
        self.lined("0:1", "0:2")
        self.near.turn()
        self.turned("0:2", "get", (), ("kept", 0))

    def test_on_what_becomes_no_thing(self):
        for worth in (None, 0, 5, "to", (), (to("0#0"),), ("to", "a")):
            with self.subTest(worth):
                p = self.call(self.cell, "echo", worth)
                early = self.call(p, "get")
                self.settled(early, "open")
                self.near.turn()
                self.settled(early, "broken", "odd")
                self.lined()
                self.settled(self.call(p, "get"), "broken", "odd")
                self.settled(self.call(early, "get"), "broken", "odd")
                self.lined()

    def test_on_what_is_broken(self):
        p = self.call(self.cell, "fail")
        early = self.call(p, "get")
        row = self.call(early, "get")
        self.near.turn()
        for name in (p, early, row, self.call(p, "get"), self.call(row, "get")):
            self.settled(name, "broken", "sad")
        self.lined()

    def test_keeps_its_args(self):
        p = self.call(self.cell, "self")
        self.call(p, "echo", (1, to(p)))
        self.near.turn()
        self.turned("0:1", "echo", ((1, to(p)),), ("kept", (1, to(p))), ((1, to(p)),))

    def test_a_row_goes_on(self):
        name = self.cell
        for _ in range(20):
            name = self.call(name, "self")
        self.lined("0:0")
        for n in range(20):
            self.turned(f"0:{n}", "self", (), ("kept", to("0#0")))
        self.lined()

    def test_order_in_which_they_came(self):
        p = self.call(self.cell, "self")
        self.call(p, "echo", 1)
        self.call(p, "echo", 2)
        self.call(p, "echo", 3)
        self.near.turn()
        self.lined("0:1", "0:2", "0:3")



class Whens(Run):
    def test_of_what_is_no_promise(self):
        odd = self.near.make("odd")
        for worth in (None, 0, 5, "a", (), to("0#0"), ("to", "a")):
            with self.subTest(worth):
                name = self.call(self.cell, "watch", worth)
                self.call(odd, "back")
                self.near.turn()
                self.settled(f"{name}.0", "open")
                self.told(self.near.line()[1:], [f"{name}.0"])
                self.near.turn()
                self.turned(f"{name}.0", "seen", (1, worth, "w", 0), ("kept", worth), ((1, worth),))
                self.settled(f"{name}.0", "kept", worth)

    def test_of_a_promise_amid_a_tuple(self):
        p = self.late()
        name = self.call(self.cell, "watch", (to(p),))
        self.near.turns(2)
        self.told(self.near.line(), [p, f"{name}.0"])
        self.near.turn()
        self.turned(f"{name}.0", "seen", (1, (to(p),), "w", 0), ("kept", (to(p),)), ((1, (to(p),)),))

    def test_of_an_open_promise_that_is_kept(self):
        p = self.late()
        self.call(self.cell, "watch", to(p))
        self.call(self.cell, "put", 8)
        self.near.turns(2)
        self.lined("0:3", p)
        self.settled("0:2.0", "open")
        self.near.turns(2)
        self.turned("0:2.0", "seen", (1, 8, "w", 0), ("kept", 8), ((1, 8),))

    def test_of_an_open_promise_that_becomes_a_thing(self):
        p = self.call(self.call(self.cell, "self"), "self")
        self.call(self.cell, "watch", to(p))
        self.near.turns(3)
        self.turned("0:2.0", "seen", (1, to("0#0"), "w", 0), ("kept", to("0#0")), ((1, to("0#0")),))

    def test_of_an_open_promise_that_is_broken(self):
        p = self.call(self.call(self.cell, "self"), "fail")
        self.call(self.cell, "watch", to(p))
        self.near.turns(3)
        self.lined("0:2.0")
        self.turned("0:2.0", "seen", (0, "sad", "w", 0), ("kept", "sad"), ((0, "sad"),))

    def test_of_one_that_waited_and_is_broken(self):
        p = self.late()
        row = self.call(p, "get")
        self.call(self.cell, "watch", to(row))
        self.near.turns(3)
        self.turned("0:3.0", "seen", (0, "odd", "w", 0), ("kept", "odd"), ((0, "odd"),))

    def test_of_settled_ones(self):
        self.call(self.cell, "echo", (1, 2))
        self.call(self.cell, "fail")
        self.call(self.cell, "self")
        self.near.turns()
        for n, first in enumerate(((1, (1, 2)), (0, "sad"), (1, to("0#0")))):
            name = self.call(self.cell, "watch", to(f"0:{n}"))
            self.near.turn()
            self.lined(f"{name}.0")
            self.turned(f"{name}.0", "seen", first + ("w", 0), ("kept", first[1]), (first,))

    def test_args_are_the_deed_s_as_they_were_then(self):
        p = self.call(self.call(self.cell, "self"), "self")
        self.call(self.cell, "watch", to(p))
        self.call(self.cell, "put", 8)
        self.near.turns(4)
        self.turned("0:2.0", "seen", (1, to("0#0"), "w", 0), ("kept", to("0#0")), ((1, to("0#0")),))

    def test_each_is_a_call_of_its_own(self):
        p = self.late()
        self.call(self.near.make("many"), "later", to(p))
        self.near.turns()
        self.settled("0:2.0", "broken", "bad")
        self.settled("0:2.1", "kept", (1, 0))

    def test_on_the_thing_whose_act_it_is(self):
        odd = self.near.make("many")
        p = self.call(self.call(self.cell, "self"), "self")
        self.call(odd, "wide", to(p))
        self.near.turns(3)
        args = (1, to("0#0"), 3, 4, 5)
        self.turned("0:2.0", "five", args, ("kept", None), (args,), thing=odd)

    def test_their_promises_are_promises(self):
        p = self.late()
        self.call(self.cell, "watch", to(p))
        self.near.turns(2)
        row = self.call("0:2.0", "get")
        self.settled("0:2.0", "open")
        self.near.turns()
        self.settled("0:2.0", "kept", 0)
        self.settled(row, "broken", "odd")


class Hanging(Run):
    def test_on_an_open_promise(self):
        self.call(self.cell, "put", 5)
        odd = self.near.make("odd")
        p = self.call(odd, "ask", to(self.cell))
        self.near.turn()
        self.turned("0:1", "ask", (to("0#0"),), ("kept", to("0:1.0")), thing=odd)
        self.settled(p, "open")
        self.turned("0:1.0", "get", (), ("kept", 5))
        self.settled(p, "kept", 5)

    def test_on_one_that_is_broken(self):
        p = self.call(self.call(self.cell, "self"), "fail")
        h = self.call(self.cell, "echo", to(p))
        self.near.turns(2)
        self.settled(h, "open")
        self.near.turn()
        self.settled(h, "broken", "sad")

    def test_on_one_that_becomes_a_thing(self):
        p = self.call(self.call(self.cell, "self"), "self")
        h = self.call(self.cell, "echo", to(p))
        row = self.call(h, "get")
        self.near.turns(3)
        self.settled(h, "kept", to("0#0"))
        self.turned(row, "get", (), ("kept", 0))

    def test_on_settled_ones(self):
        for word, args, outcome in (("echo", (4,), ("kept", 4)), ("fail", (), ("broken", "sad")),
                                    ("self", (), ("kept", to("0#0"))), ("get", (1,), ("broken", "odd"))):
            p = self.call(self.cell, word, *args)
            self.near.turn()
            h = self.call(self.cell, "echo", to(p))
            early = self.call(h, "get")
            self.turned(h, "echo", (to(p),), ("kept", to(p)), (to(p),))
            self.settled(h, *outcome)
            if outcome == ("kept", to("0#0")):
                self.turned(early, "get", (), ("kept", 0))
            else:
                self.settled(early, "broken", "odd" if outcome[0] == "kept" else outcome[1])
            self.lined()

    def test_holds_amid_tuples_do_not_hang(self):
        p = self.late()
        h = self.call(self.cell, "echo", (to(p),))
        self.near.turns(2)
        self.settled(h, "kept", (to(p),))

    def test_of_a_call_to_itself(self):
        odd = self.near.make("odd")
        p = self.call(odd, "mine")
        self.near.turn()
        self.settled(p, "open")
        self.lined("0:0.0")
        self.near.turn()
        self.settled(p, "kept", 9)

    def itself(self):
        """A call whose outcome is its own promise, that has acted."""
        p = self.late()
        self.call(self.cell, "put", to(p))
        self.near.turns(2)
        return p

    def test_on_itself(self):
        p = self.itself()
        self.turned(p, "get", (), ("kept", to(p)))
        waits = self.call(p, "get")
        hangs = self.call(self.cell, "echo", to(p))
        self.call(self.cell, "watch", to(p))
        self.near.turns()
        self.lined()
        for name in (p, waits, hangs, f"0:{int(hangs[2:]) + 1}.0"):
            self.settled(name, "open")

    def test_on_one_another(self):
        first = self.call(self.cell, "self")
        one, other = self.call(first, "get"), self.call(first, "get")
        self.call(self.cell, "put", to(other))
        self.near.turns(3)
        self.settled(one, "open")
        self.near.turn()
        self.settled(other, "open")
        # one hangs on the other, which hangs on itself
        row = self.call(one, "get")
        self.near.turns()
        for name in (one, other, row):
            self.settled(name, "open")

    def test_a_ring_of_three(self):
        first = self.call(self.cell, "self")
        cells = [self.near.make("cell") for _ in range(3)]
        gates = [self.call(cell, "self") for cell in cells]
        calls = [self.call(gate, "get") for gate in gates]
        for cell, call in zip(cells, calls[1:] + calls[:1]):
            self.call(cell, "put", to(call))
        self.assertEqual(len(self.near.turns()), 10)
        self.settled(first, "kept", to("0#0"))
        for call in calls:
            self.settled(call, "open")


class Behind(Run):
    """The order of what comes behind an act."""

    def test_things_then_puts_then_what_waits(self):
        many = self.near.make("many")
        p = self.call(many, "all", to(self.cell))
        self.call(p, "echo", 1)
        self.call(self.cell, "get")
        self.near.turn()
        self.told(self.near.things(), ["0#0", "0#1", "0:0#0"])
        # what stood there, then the puts in order, of which 0:0.4 waits on 0:0.1, then what waited
        self.lined("0:2", "0:0.0", "0:0.1", "0:0.2", "0:0.3", "0:1")
        self.near.turns(3)
        self.lined("0:0.2", "0:0.3", "0:1", "0:0.4")

    def test_a_put_on_the_call_s_own_promise(self):
        odd = self.near.make("odd")
        p = self.call(self.call(self.cell, "echo", to(odd)), "loop")
        self.call(odd, "hold", to(p))
        ahead = self.call(p, "back")
        self.near.turns(2)
        self.lined(p)
        self.turned(p, "loop", (), ("kept", to(odd)), thing=odd)
        self.lined(ahead, f"{p}.0")
        self.near.turn()
        self.turned(f"{p}.0", "back", (), ("kept", 9), thing=odd)

    def test_what_waits_on_what_is_being_settled_goes_at_once(self):
        p = self.call(self.call(self.cell, "self"), "self")
        h = self.call(self.cell, "echo", to(p))
        self.near.turn()
        first = self.call(p, "echo", 1)
        self.lined(h, p)
        self.call(self.cell, "watch", to(h))
        self.near.turn()
        on_h = [self.call(h, "echo", n) for n in (2, 3)]
        last = self.call(p, "echo", 4)
        self.near.turn()
        self.lined(f"0:{int(first[2:]) + 1}", first, *on_h, last)

    def test_each_at_once_with_all_that_waits_for_it(self):
        gate = self.call(self.cell, "self")
        p = self.call(gate, "self")
        ones = [self.call(self.cell, "echo", to(p)) for _ in range(2)]
        two = self.call(self.cell, "echo", to(ones[0]))
        self.near.turns(4)
        self.lined(p)
        names = [self.call(name, "echo", n) for n, name in enumerate((ones[1], two, ones[0], p, two, p))]
        self.near.turn()
        # of p hang the ones, then its own; of the first one hangs two, then its own
        self.lined(names[1], names[4], names[2], names[0], names[3], names[5])

    def test_what_is_broken_takes_its_whens_along_at_once(self):
        p = self.call(self.call(self.cell, "self"), "fail")
        one, other = self.call(p, "get"), self.call(p, "get")
        deep = self.call(one, "get")
        for name in (other, deep, one, p, deep):
            self.call(self.cell, "watch", to(name))
        self.near.turn()
        self.near.turns(5)
        self.lined(p, )
        self.near.turn()
        first = int(deep[2:]) + 1
        # one: deep waits there first, and its whens come ahead of that of one itself
        self.lined(*[f"0:{first + n}.0" for n in (1, 4, 2, 0, 3)])

    def test_whens_and_calls_by_turns(self):
        p = self.call(self.call(self.cell, "self"), "self")
        self.call(self.cell, "watch", to(p))
        self.call(self.cell, "echo", to(p))
        self.call(self.cell, "watch", to(p))
        a = self.call(p, "echo", 1)
        self.near.turns(4)
        self.lined(p)
        b = self.call(p, "echo", 2)
        on = self.call("0:3", "echo", 3)
        self.near.turn()
        self.lined(a, "0:2.0", on, "0:4.0", b)


class Rows(Run):
    """Rows as long as there are turns."""

    def within_few_frames(self, function):
        """What a call tells that may nest only some two hundred calls."""
        frame, depth = sys._getframe(), 0
        while frame is not None:
            frame, depth = frame.f_back, depth + 1
        before = sys.getrecursionlimit()
        sys.setrecursionlimit(depth + 200)
        try:
            return function()
        finally:
            sys.setrecursionlimit(before)

    def test_of_calls_that_wait(self):
        name = self.call(self.cell, "fail")
        for _ in range(3000):
            name = self.call(name, "get")
        rows = self.within_few_frames(self.near.turns)
        self.assertEqual(len(rows), 1)
        for n in (1, 1500, 3000):
            self.settled(f"0:{n}", "broken", "sad")

    def test_of_calls_that_act(self):
        name = self.cell
        for _ in range(400):
            name = self.call(name, "self")
        self.assertEqual(len(self.within_few_frames(self.near.turns)), 400)
        self.settled(name, "kept", to("0#0"))

    def test_of_what_hangs(self):
        first = name = self.late()
        for _ in range(398):
            name = self.call(self.cell, "echo", to(name))
        self.near.turns(399)
        self.lined(first)
        self.settled(name, "open")
        self.within_few_frames(self.near.turn)
        self.settled(name, "kept", 0)
        self.settled("0:200", "kept", 0)

    def test_of_whens(self):
        p = self.late()
        for _ in range(300):
            self.call(self.cell, "watch", to(p))
        self.near.turns(301)
        self.lined(p)
        self.within_few_frames(self.near.turn)
        self.lined(*[f"0:{n}.0" for n in range(2, 302)])

    def test_the_same_deeds_tell_the_same(self):
        def told():
            near = Near(PLAN)
            cell, odd = near.make("cell"), near.make("many", args=())
            p = near.call(near.call(cell, "self"), "spawn", args=(to(odd),))
            near.call(odd, "all", args=(to(p),))
            near.call(cell, "watch", args=(to(p),))
            return near.turns(), near.things(), near.line()
        self.told(told(), told())


if __name__ == "__main__":
    unittest.main()
