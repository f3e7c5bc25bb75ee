"""A desk: point 37."""

import random
import unittest

from farcalls.desk import Desk
from farcalls.errors import (BadArgs, BadText, Fallen, NoAsk, NoHouse, NoKind, NoName, NoRound, NoWay, NoWorld, TooLong)
from farcalls.plantexts import show_plan, show_worth
from farcalls.worlds import World
from helpers import Case, anything
from test_worlds import RUNNER, drawn_deed
from web import PLAN

OTHER = (("pot", (("b", 7), ("a", ("x", -1)), ("c", None)), (
    ("set", ("v",), (("set", "c", ("var", "v")), ("set", "a", ("is", 0)))),
    ("say", ("v",), (("say", ("var", "v")), ("say", ("var", "v")), ("say", ("me",)), ("say", ("row", ("row", ("var", "v")), ("me",))),
                     ("say", ("is", ((),))), ("say", ("is", None)), ("give", ("row", ("me",), ("var", "v"))))),
    ("bad", (), (("say", ("me",)), ("fail", "sour"))),
)),)
# rows of a desk with a world, each of which can be answered or refused as worlds refuse
ROWS = ("world 3", "make 0 node", "make 0 node 1 < 'a - >", "call 0 0#0 get", "call 0 0#0 put @0#0", "offer 0 1 0#0", "free 0 0#0",
        "sweep 0", "mark 0 1", "clear 0 1", "turn 0", "take 0", "drop 0", "double 0", "again 0", "fall 0", "lost 0 1", "step 0",
        "go", "settled 0 0#0", "things 0", "names 0", "held 0", "stands 0 0#0", "up", "net", "acts")


class Desks(Case):
    def setUp(self):
        self.desk = Desk()
        self.desk.say("plan\n" + show_plan(PLAN))
        self.desk.say("world 3")

    def says(self, row, answer):
        self.told(self.desk.say(row), answer)

    def all_say(self, *rows):
        for row, answer in rows:
            with self.subTest(row):
                self.says(row, answer)

    def state(self):
        rows = ["up", "net", "acts"]
        for number in self.desk.say("up").replace("none", "").split():
            rows.extend([f"things {number}", f"names {number}", f"held {number}"])
        return [self.desk.say(row) for row in rows]

    def refuses(self, asked, error, /, **fields):
        """It is refused, and changes nothing."""
        ahead = self.state()
        self.refused(error, fields, self.desk.say, asked)
        self.told(self.state(), ahead)


class Answers(Desks):
    def test_no_world_yet(self):
        desk = Desk()
        for row in ROWS:
            self.refused(NoWorld, {}, desk.say, row)
        self.refused(BadText, {"row": 0}, desk.say, "plan\n")
        self.refused(NoWorld, {}, desk.say, "world 1")
        self.told(desk.say("plan\n" + show_plan(PLAN)), "ok")
        for row in ROWS[1:]:
            self.refused(NoWorld, {}, desk.say, row)
        self.told(desk.say("world 1"), "ok")
        self.told(desk.say("up"), "0")

    def test_things_and_calls(self):
        self.all_say(
            ("make 0 node", "0#0"), ("make 1 maker 5", "1#0"), ("make 0 node < 'a -1 - > @0#0", "0#1"),
            ("stands 0 0#0", "node one - two -"), ("stands 1 1#0", "maker one 5 two -"),
            ("stands 0 0#1", "node one < 'a -1 - > two @0#0"),
            ("call 0 0#0 put < < 1 > @0#1 'to >", "0:0"), ("call 0 0:0 get", "0:1"), ("settled 0 0:0", "open"),
            ("settled 0 0#1", "thing"), ("things 0", "0#0 0#1"), ("things 2", "none"), ("names 0", "0#0 0#1 0:0 0:1"),
            ("held 0", "0#0 0#1 0:0 0:1"), ("names 2", "none"), ("held 2", "none"), ("acts", "none"), ("net", "none"),
            ("turn 0", "0 0:0 0#0 put < < < 1 > @0#1 'to > > kept - < >"), ("settled 0 0:0", "kept -"),
            ("settled 0 0:1", "broken odd"), ("stands 0 0#0", "node one < < 1 > @0#1 'to > two -"),
            ("call 0 0#0 get", "0:2"), ("call 0 0#0 no", "0:3"), ("step 0", "turn 0"), ("settled 0 0:2", "kept < < 1 > @0#1 'to >"),
            ("go", "1"), ("acts", "0 0:0 0#0 put < < < 1 > @0#1 'to > > kept - < >; 0 0:2 0#0 get < > kept < < 1 > @0#1 'to > < >"
                                  "; 0 0:3 0#0 no < > broken odd < >"), ("step 7", "none"), ("go", "0"))

    def test_letters_and_falls(self):
        self.all_say(
            ("make 0 node", "0#0"), ("make 1 node", "1#0"), ("offer 0 1 0#0", "ok"), ("offer 1 2 1#0", "ok"),
            ("net", "0 0 1; 1 1 2"), ("double 1", "ok"), ("net", "0 0 1; 1 1 2; 2 1 2"), ("drop 1", "ok"), ("take 2", "ok"),
            ("net", "0 0 1; 3 2 1"), ("held 2", "1#0"), ("step 1", "take 3"), ("step 1", "take 0"), ("held 1", "0#0 1#0"),
            ("net", "4 1 0"), ("drop 4", "ok"), ("again 0", "ok"), ("net", "5 0 1"), ("go", "2"), ("up", "0 1 2"),
            ("call 1 0#0 get", "1:0"), ("fall 0", "ok"), ("up", "1 2"),
            ("net", "none"), ("settled 1 1:0", "open"), ("lost 1 0", "ok"), ("settled 1 1:0", "broken lost"), ("lost 1 0", "ok"),
            ("fall 1", "ok"), ("fall 2", "ok"), ("up", "none"), ("go", "0"), ("step 0", "none"))

    def test_keeping(self):
        self.all_say(
            ("make 0 node", "0#0"), ("call 0 0#0 put @0#0", "0:0"), ("go", "1"), ("free 0 0#0", "ok"), ("free 0 0:0", "ok"),
            ("held 0", "none"), ("names 0", "0#0 0:0"), ("mark 0 5", "ok"), ("mark 1 5", "ok"), ("mark 2 5", "ok"), ("go", "0"),
            ("clear 0 5", "ok"), ("clear 1 5", "ok"), ("clear 2 5", "ok"), ("sweep 0", "ok"), ("names 0", "none"), ("things 0", "none"))

    def test_the_plan_s_order_and_says(self):
        self.all_say(
            ("plan\n" + show_plan(OTHER), "ok"), ("make 0 node", "0#0"), ("world 1", "ok"), ("make 0 pot", "0#0"),
            ("stands 0 0#0", "pot b 7 a < 'x -1 > c -"), ("call 0 0#0 set 5", "0:0"), ("turn 0", "0 0:0 0#0 set < 5 > kept - < >"),
            ("stands 0 0#0", "pot b 7 a 0 c 5"), ("call 0 0#0 say < 'a >", "0:1"),
            ("turn 0", "0 0:1 0#0 say < < 'a > > kept < @0#0 < 'a > > < < 'a > < 'a > @0#0 < < < 'a > > @0#0 > < < > > - >"),
            ("call 0 0#0 bad", "0:2"), ("turn 0", "0 0:2 0#0 bad < > broken sour < >"), ("settled 0 0:2", "broken sour"),
            ("settled 0 0:1", "kept < @0#0 < 'a > >"))

    def test_many_says(self):
        plan = (("a", (), (("say", (), tuple(("say", ("is", number)) for number in range(30))),)),)
        self.desk.say("plan\n" + show_plan(plan))
        self.all_say(("world 1", "ok"), ("make 0 a", "0#0"), ("call 0 0#0 say", "0:0"),
                     ("turn 0", "0 0:0 0#0 say < > kept - < " + " ".join(str(number) for number in range(30)) + " >"))

    def test_plans_of_worlds(self):
        self.all_say(("make 0 node", "0#0"), ("plan\n" + show_plan(OTHER), "ok"), ("stands 0 0#0", "node one - two -"),
                     ("make 0 maker", "0#1"))
        self.refuses("make 0 pot", NoKind, kind="pot")
        self.refuses("plan\n" + show_plan(PLAN) + "\n", BadText, row=len(show_plan(PLAN).split("\n")))
        self.refuses("plan\nkind a\n\nkind b", BadText, row=1)
        self.refuses("plan\nkind a\nkind a", BadText, row=2)
        self.all_say(("world 2", "ok"), ("make 0 pot", "0#0"), ("up", "0 1"), ("acts", "none"))

    def test_names_of_all_signs(self):
        for name in ("x", "0#1", "0#0;", "(", "<>", "a,b", "~", "'to", "@0#0", "-", "0" * 500, "none"):
            for row in (f"settled 0 {name}", f"stands 0 {name}", f"free 0 {name}", f"offer 0 1 {name}", f"call 0 {name} get"):
                self.refuses(row, NoName, name=name)


class Refusals(Desks):
    def test_what_is_no_row(self):
        rows = ["", " ", "ok", "plan", "plan ", "plan kind a", "Plan\nkind a", " plan\nkind a", "world", "world 0", "world 7", "world 03",
                "world -1", "world a", "world 1 1", "world 1\n", "world  1", " world 1", "world 1 ", "make", "make 0", "make 0 Node",
                "make 0 nodenodes", "make a node", "make 00 node", "make 0 node ", "make 0  node", "make 0 node x", "make 0 node '",
                "make 0 node 'A", "make 0 node -0", "make 0 node 01", "make 0 node 1234567890", "make 0 node -1234567890",
                "make 0 node <", "make 0 node >", "make 0 node <>", "make 0 node < 1", "make 0 node < 1 > >", "make 0 node < < < < 1 > > > >",
                "make 0 node < 1 2 3 4 5 6 >", "make 0 node @", "make 0 node @x", "make 0 node @6#0", "make 0 node @0#00", "make 0 node @0",
                "make 0 node < @0#0 @ >", "make 0 node +1", "make 0 node 1.", "make 0 node ( row )", "make 0 node .one", "make 0 node *",
                "make 0 node none", "make 0 node @" + "0#" + "1" * 399, "call 0", "call 0 0#0", "call 0 0#0 ", "call 0 0#0 1",
                "call 0 0#0 get 'A", "call 0 0#0 get x", "call 0  get", "call 0 0#0\n get", "call 0 0#0 get\n", "call x 0#0 get",
                "offer 0 1", "offer 0 0#0", "offer 0 1 0#0 1", "offer 0 1 ", "offer 0 1 a\nb", "offer 0 1 0#0\n", "offer 0 1 0#0\r",
                "free 0", "free 0#0", "free 0 0#0 0#0", "free 0 \n", "sweep", "sweep 0 0", "sweep x", "sweep 0\n", "mark 0", "mark 0 01",
                "mark 0 x", "mark 0 -1", "mark 0 1 1", "mark 0 1234567890", "clear 0", "clear 0 +1", "turn", "turn 0 0", "turn x",
                "turn -1", "turn 1234567890", "take", "take 00", "take 1 2", "drop", "drop x", "double", "double 1 1", "again", "again 0 1",
                "fall", "fall one", "lost", "lost 0", "lost 0 1 2", "lost 0 x", "step", "step -1", "step 0 0", "step 01", "go 1", "go ",
                "go\n", "GO", " go", "settled", "settled 0", "settled 0#0", "settled 0 0#0 x", "things", "things 0 0", "names", "names x",
                "held", "held 0 ", "stands 0", "stands 0 0#0 1", "up 0", "up ", "net 0", "net\n", "acts 0", "line 0", "let_go 0 0#0",
                "ways", "do turn 0", "way 0", "outer", "copy", "still", "post 0", "\n", "go\ngo"]
        for row in rows:
            with self.subTest(row):
                self.refuses(row, NoAsk, row=row)
                self.refused(NoAsk, {"row": row}, Desk().say, row)

    def test_anything(self):
        desk = Desk()
        for thing in anything() + [b"go", ["go"], ("go",), ("plan\nkind a",), {"go": 1}]:
            self.refuses(thing, NoAsk, row=thing)
            self.refused(NoAsk, {"row": thing}, desk.say, thing)

    def test_what_is_told_is_a_copy(self):
        row = ["go", [1]]
        with self.assertRaises(NoAsk) as caught:
            self.desk.say(row)
        caught.exception.row[1].append(2)
        self.told(row, ["go", [1]])

    def test_as_worlds_refuse(self):
        self.all_say(("make 0 node", "0#0"), ("fall 2", "ok"))
        for word in ("make 3 zz", "call 3 x get", "offer 3 9 x", "free 3 x", "sweep 3", "mark 3 0", "clear 3 0", "settled 3 x",
                     "things 3", "names 3", "held 3", "stands 3 x"):
            self.refuses(word, NoHouse, house=3)
            self.refuses(word.replace(" 3", " 999999999", 1), NoHouse, house=999999999)
            self.refuses(word.replace(" 3", " 2", 1), Fallen, house=2)
        self.refuses("make 0 zz @9", NoAsk, row="make 0 zz @9")
        self.refuses("make 0 zz 1 2 3 4 5 6 7", NoKind, kind="zz")
        self.refuses("make 0 node 1 2 3", BadArgs, asked=(1, 2, 3))
        self.refuses("make 0 node 1 @1#0", NoName, name="1#0")
        self.refuses("make 0 node @0:0.1#2", NoName, name="0:0.1#2")
        self.refuses("call 0 0#0 get 1 2 3 4 5 6 < >", BadArgs, asked=(1, 2, 3, 4, 5, 6, ()))
        self.refuses("call 0 0#0 get < @0#0 @0:7 >", NoName, name="0:7")
        self.refuses("offer 0 0 0#0", NoHouse, house=0)
        self.refuses("offer 0 6 0#0", NoHouse, house=6)
        self.says("offer 0 5 0#0", "ok")
        self.refuses("mark 0 0", NoRound, number=0)
        self.refuses("clear 0 1", NoRound, number=1)
        for row, way in (("turn 0", ("turn", 0)), ("turn 2", ("turn", 2)), ("turn 9", ("turn", 9)), ("take 0", ("take", 0)),
                         ("drop 7", ("drop", 7)), ("double 999999999", ("double", 999999999)), ("again 2", ("again", 2)),
                         ("fall 2", ("fall", 2)), ("fall 3", ("fall", 3)), ("lost 0 1", ("lost", 0, 1)), ("lost 2 0", ("lost", 2, 0)),
                         ("lost 0 3", ("lost", 0, 3))):
            self.refuses(row, NoWay, asked=way)
        self.refuses("stands 1 0#0", NoName, name="0#0")

    def test_too_long(self):
        self.desk.say("plan\n" + show_plan(RUNNER))
        self.all_say(("world 1", "ok"), ("make 0 a", "0#0"))
        # names grow longer with each act, so that two thousand acts of one call can't be; calls side by side can
        for number in range(2001):
            self.says("call 0 0#0 no", f"0:{number}")
        self.refused(TooLong, {"most": 2000}, self.desk.say, "go")
        self.says("go", "1")

    def test_desks_go_on_for_themselves(self):
        other = Desk()
        self.refused(NoWorld, {}, other.say, "up")
        other.say("plan\n" + show_plan(OTHER))
        other.say("world 1")
        self.all_say(("make 0 node", "0#0"), ("up", "0 1 2"))
        self.told((other.say("up"), other.say("things 0"), other.say("make 0 pot")), ("0", "none", "0#0"))
        self.says("things 0", "0#0")
        self.says("make 0 maker", "0#1")


class Drawn(Case):
    def text_of(self, told):
        if isinstance(told, list):
            return " ".join(str(part) for part in told) or "none"
        return "ok" if told is None else told

    def test_a_desk_is_a_world(self):
        for seed in range(40):
            with self.subTest(seed):
                draw = random.Random(seed)
                many = 1 + seed % 6
                world, desk = World(PLAN, many=many), Desk()
                desk.say("plan\n" + show_plan(PLAN))
                desk.say(f"world {many}")
                for _ in range(50):
                    word, *things, named = drawn_deed(world, draw, True)
                    told = getattr(world, word)(*things, **named)
                    row = " ".join([word if word != "let_go" else "free", *[str(thing) for thing in things],
                                    *[show_worth(worth) for worth in named.get("args", ())]])
                    if word == "do":
                        row = " ".join(str(part) for part in things[0])
                    if word == "step":
                        told = " ".join(str(part) for part in told) if told else "none"
                    self.told(desk.say(row), self.text_of(told))
                self.same(world, desk)

    def same(self, world, desk):
        self.told(desk.say("up"), self.text_of(world.up()))
        self.told(desk.say("net"), "; ".join(" ".join(str(part) for part in row) for row in world.net()) or "none")
        acts = []
        for house, (call, thing, word, args, outcome, says) in world.acts():
            came = f"broken {outcome[1]}" if outcome[0] == "broken" else f"kept {show_worth(outcome[1])}"
            acts.append(f"{house} {call} {thing} {word} {show_worth(args)} {came} {show_worth(says)}")
        self.told(desk.say("acts"), "; ".join(acts) or "none")
        for number in world.up():
            for word in ("things", "names", "held"):
                self.told(desk.say(f"{word} {number}"), self.text_of(getattr(world, word)(number)))
            for name in world.things(number):
                kind, fields = world.stands(number, name)
                self.told(desk.say(f"stands {number} {name}"),
                          f"{kind} one {show_worth(fields['one'])} two {show_worth(fields['two'])}")
        self.told(desk.say("go"), str(world.go()))


if __name__ == "__main__":
    unittest.main()
