"""Houses read from their texts and done again from their views: points 29 and 31, and of point 4 View and Cut anywhere."""

import random
import unittest

from farcalls.errors import BadPlan, BadText, BadView, NoHouse
from farcalls.houses import House
from farcalls.housetexts import read_house
from farcalls.plantexts import show_plan
from farcalls.views import again_of, first_wrong
from helpers import Case, anything
from test_drawn import drawn_more
from test_houses import Far, kept, to
from test_near import PLAN as NEAR
from test_views import SMALL, Equal
from web import PLAN, Web, drawn

SIGNS = [chr(code) for code in range(32, 127)] + ["\n", "\r"]


def busy():
    """A house to which much came: things, calls, a round, a fall, and letters of all kinds."""
    draw = random.Random(5)
    web = Web(PLAN, 4)
    drawn(web, draw, 25, often=0.02)
    drawn_more(web, draw)
    return max([web[number] for number in web.up], key=lambda house: len(house.view()))


class Texts(Far):
    def again(self, house):
        """The house that is read from a house's text."""
        other = read_house(str(house))
        self.assertIs(type(other), House)
        self.assertTrue(other == house)
        self.told((str(other), other.view()), (str(house), house.view()))
        self.told((other.names(), other.held(), other.things(), other.line(), len(other)),
                  (house.names(), house.held(), house.things(), house.line(), len(house)))
        return other

    def test_equal_ones(self):
        for house in Equal().houses() + [busy(), House(NEAR, 5)]:
            self.again(house)

    def test_texts_of_letters_of_lost_houses(self):
        house = House(PLAN, 0)
        house.lost(3)
        for text in ("", "\n<", "n", ">", "12", "3'abc", "a'b", ";", "-"):
            house.take(3, (text, (), ((text,), None, True, False, 0, -5, 10 ** 40)))
            self.again(house)

    def test_worths_that_are_written_alike_by_others(self):
        seen = {}
        for args in ((None, 5), (-5,), (5, None), (None, -5), ((None, 5),), ((-5,),), ((), 5), (5,), (0, 5), ("n", 5), ("n",),
                     (None,), (), ((),), (((),),), (to("0#0"),), (("to", to("0#0")),), (("to", "a"),), ("t",), ("f",), (1, 5),
                     (15,), ((1, 5),), ("ab", "c"), ("a", "bc"), ("abc",)):
            house = House(PLAN, 0)
            house.make("node")
            house.make("node", args=args)
            self.again(house)
            self.assertNotIn(str(house), seen)
            seen[str(house)] = args

    def test_reads_nothing_else(self):
        for thing in anything() + [str(House(SMALL, 0)).split("\n"), House(SMALL, 0), b"house 0", show_plan(PLAN), "\n", "house 0"]:
            self.refused(BadText, {"row": 0}, read_house, thing)

    def test_one_sign_anywhere(self):
        short = House(SMALL, 2)
        short.make("a")
        short.post()
        for house in (House(SMALL, 0), short):
            text = str(house)
            for at in range(len(text) + 1):
                wrong = [text[:at] + sign + text[at:] for sign in SIGNS]
                if at < len(text):
                    wrong.append(text[:at] + text[at + 1:])
                    wrong.extend(text[:at] + sign + text[at + 1:] for sign in SIGNS if sign != text[at])
                for other in wrong:
                    self.refused(BadText, {"row": 0}, read_house, other)

    def test_one_sign_in_a_long_text(self):
        draw = random.Random(0)
        text = str(busy())
        ends = [at for at in range(len(text)) if text[at] in "\n<>;'-"]
        for _ in range(600):
            at = draw.choice([draw.randrange(len(text)), draw.choice(ends), draw.randrange(len(text) - 20, len(text))])
            sign = draw.choice([sign for sign in SIGNS if sign != text[at]] + ["\n"] * 20)
            for other in (text[:at] + sign + text[at:], text[:at] + text[at + 1:], text[:at] + sign + text[at + 1:]):
                if other != text:
                    self.refused(BadText, {"row": 0}, read_house, other)

    def test_texts_with_a_right_end_that_are_no_house_s(self):
        head = f"house 0\n{show_plan(SMALL)}"
        bodies = [head + "\n<", head + "\n>", head + "\n<>", head + "\n<4'turn<>", head + "\n<4'turn<>>>", head + "\n5;",
                  head + "\n<4'turn<>>\n", head + "\n\n<4'turn<>>", head + "<4'turn<>>", head + "\n<4'turn<>n>", head + "\n<4'turn>",
                  head + "\n<04'turn<>>", head + "\n<-4'turn<>>", head + "\n<9999'turn<>>", head + "\n<4'turn<" + "9" * 5000 + ";>>",
                  head + "\n<4'turn", head + "\n<4'turn<>><4'turn<>>", head + "\n" + "<" * 2000, head + "\n<4;turn<>>",
                  head + "\n<4'turn<x>>", head + "\n<4'turn<--5;>>", head + "\n<4'jump<>>", head + "\n<4'lost<0;>>", head + "\n<4'lost<n>>",
                  head + "\n<4'lost<1;1;>>", head + "\n<4'lost1;>", head + "\n<<>4'turn>", head + "\n<4'lost<01;>>",
                  head + "\n<4'turn<>>5;", head + "\n<4'turn<>>n", head + "\n<4'turn<>>12", head + "\n<4'turn<>>2'ab", head + "\n<4'turn<>><",
                  "0" + head[7:], "house 6" + head[7:], "house 00" + head[7:], "house 0", "house 0\n", "", "\n",
                  "house 0\nkind A", "house 0\nkind a\ngive 1"]
        for body in bodies:
            total = sum(ord(sign) for sign in body)
            self.refused(BadText, {"row": 0}, read_house, f"{body}\ncheck {len(body)} {total}")
        body = head + "\n<4'turn<>>"
        house = read_house(f"{body}\ncheck {len(body)} {sum(ord(sign) for sign in body)}")
        self.told(house.view(), [("turn", (), None)])


class Wrong(Far):
    """Views of which an entry is wrong."""

    def setUp(self):
        Far.setUp(self)
        self.share((0, "1#0"), (1, "0#0"))
        self.web.call(0, "1#0", "ask", to("0#0"))
        self.web.call(1, "0#0", "get")
        self.web.settle()
        house = self.web[0]
        self.web.turn(0)
        house.sweep()
        house.mark(1)
        house.clear(1)
        house.let_go("0:0")
        house.again()
        self.web.lost(0, 2)
        self.view = house.view()

    def place(self, at, *entry):
        """The first wrong entry of the view is this one, where it stands at that place."""
        view = self.view[:at] + [entry[0]] + self.view[at + 1:] if entry else self.view
        kept_view = list(view)
        self.told(first_wrong(PLAN, 0, view), at)
        self.refused(BadView, {"place": at}, again_of, PLAN, 0, view)
        self.told(view, kept_view)

    def test_none(self):
        for many in range(len(self.view) + 1):
            view = self.view[:many]
            self.told(first_wrong(PLAN, 0, view), None)
            house = again_of(PLAN, 0, view)
            self.assertIs(type(house), House)
            self.told(house.view(), view)
        self.assertTrue(house == self.web[0])
        self.told(str(house), str(self.web[0]))
        self.assertTrue(again_of(PLAN, 4, []) == House(PLAN, 4))

    def test_another_plan_or_number(self):
        first = [at for at, entry in enumerate(self.view) if entry[0] == "make"][0]
        self.told(first_wrong(PLAN, 1, self.view), first)
        self.told(first_wrong(PLAN, 3, self.view), 0)
        self.told(first_wrong(SMALL, 0, self.view), first)
        self.refused(BadPlan, {}, first_wrong, (), 0, [])
        self.refused(NoHouse, {"house": 6}, again_of, PLAN, 6, [])

    def test_no_lists(self):
        for thing in anything():
            if thing == [] and isinstance(thing, list):
                self.told(first_wrong(PLAN, 0, thing), None)
            else:
                self.told(first_wrong(PLAN, 0, thing), 0)
                self.refused(BadView, {"place": 0}, again_of, PLAN, 0, thing)
        self.told(first_wrong(PLAN, 0, tuple(self.view)), 0)
        self.told(first_wrong(PLAN, 0, {"view": self.view}), 0)

    def test_entries_of_anything(self):
        last = len(self.view)
        for thing in anything():
            for at in (0, 5, last):
                self.place(at, thing)

    def test_words_of_anything(self):
        for thing in anything() + ["settled", "stands", "things", "line", "held", "names", "view", "copy", "TURN", "turns", "__init__",
                                   "_did", "twin", "is_heard"]:
            for things in ((), (1,), ("0#0",)):
                self.place(3, (thing, things, None))

    def test_things_of_anything(self):
        count = {"make": 2, "call": 3, "offer": 2, "let_go": 1, "turn": 0, "take": 2, "post": 0, "again": 0, "lost": 1, "sweep": 0,
                 "mark": 1, "clear": 1}
        last = len(self.view)
        for word, many in count.items():
            for thing in anything():
                if not isinstance(thing, tuple) or len(thing) != many:
                    self.place(last, (word, thing, None))
                if word not in ("turn", "post", "again", "sweep"):
                    good = word == "lost" and thing == 1 and not isinstance(thing, bool)
                    good = good or word == "mark" and isinstance(thing, int) and not isinstance(thing, bool) and thing > 1
                    good = good or word == "let_go" and thing == "0#0"
                    if not good:
                        self.place(last, (word, (thing,) * many, None))

    def test_told_of_anything(self):
        for at, (word, things, told) in enumerate(self.view):
            for thing in anything() + [1, (told,), [told], list(told) if isinstance(told, tuple) else 0]:
                if thing != told or type(thing) is not type(told):
                    self.place(at, (word, things, thing))

    def test_kind_for_kind(self):
        turn = [at for at, entry in enumerate(self.view) if entry[0] == "turn" and entry[2] is not None][0]
        call, thing, word, args, outcome, says = self.view[turn][2]
        for told in ([call, thing, word, args, outcome, says], (call, thing, word, list(args), outcome, says),
                     (call, thing, word, args, list(outcome), says), (call, thing, word, args, outcome, []),
                     (call, thing, word, args, outcome), (call, thing, word, args, outcome, says, None), ()):
            self.place(turn, ("turn", (), told))
        post = [at for at, entry in enumerate(self.view) if entry[0] == "post" and entry[2]][0]
        told = self.view[post][2]
        for other in (list(told), [list(told[0])], (list(told[0]),), ((bool(told[0][0]), told[0][1]),), told + told, (), told[1:],
                      ((told[0][0], told[0][1][:3] + (False,)),), ((told[0][0], list(told[0][1])),)):
            if other != told or type(other) is not tuple:
                self.place(post, ("post", (), other))
        self.place(len(self.view), ("mark", (True,), None))
        self.place(len(self.view), ("lost", (True,), None))
        self.place(len(self.view), ("make", ("node", []), "0#1"))
        self.place(len(self.view), ("make", ("node", ([1],)), "0#1"))
        self.place(len(self.view), ("make", ("node", (True,)), "0#1"))

    def test_deeds_that_are_refused(self):
        last = len(self.view)
        for entry in (("make", ("zz", ()), "0#1"), ("make", ("node", (1, 2, 3)), "0#1"), ("make", ("node", (to("9#9"),)), "0#1"),
                      ("call", ("0:0", "get", ()), "0:1"), ("call", ("0#0", "Get", ()), "0:1"), ("call", ("0#0", "get", (1,) * 6), "0:1"),
                      ("call", ("0#0", "get", (to("0:9"),)), "0:1"), ("offer", (0, "0#0"), None), ("offer", (6, "0#0"), None),
                      ("offer", (1, "0#9"), None), ("let_go", ("0:0",), None), ("take", (0, ("rows", 0, (), 0)), None),
                      ("take", (1, ["rows", 0, (), 0]), None), ("take", (2, None), None), ("lost", (0,), None), ("lost", (-1,), None),
                      ("mark", (1,), None), ("mark", (0,), None), ("clear", (1,), None), ("clear", (2,), None)):
            self.place(last, entry)
        for entry in (("make", ("node", ()), "0#1"), ("call", ("0#0", "get", ()), "0:1"), ("take", (2, ()), None), ("lost", (2,), None),
                      ("mark", (2,), None), ("turn", (), None), ("sweep", (), None), ("post", (), ())):
            self.told(first_wrong(PLAN, 0, self.view + [entry]), None)

    def test_entries_left_out_put_in_or_changed_about(self):
        make = [at for at, entry in enumerate(self.view) if entry[0] == "make"][0]
        post = [at for at, entry in enumerate(self.view) if entry[0] == "post" and entry[2]][0]
        take = [at for at, entry in enumerate(self.view) if entry[0] == "take"][0]
        view = list(self.view)
        self.told(first_wrong(PLAN, 0, view[:make + 1] + [view[make]] + view[make + 1:]), make + 1)
        self.told(first_wrong(PLAN, 0, view[:post + 1] + [view[post]] + view[post + 1:]), post + 1)
        after = [at for at in range(take + 1, len(view)) if view[at][0] == "post"][0]
        self.told(first_wrong(PLAN, 0, view[:take] + view[take + 1:]), after - 1)
        self.told(first_wrong(PLAN, 0, view[:post - 1] + [view[post], view[post - 1]] + view[post + 1:]), post - 1)

    def test_what_is_handed_in_stays(self):
        args, letter = [[1, {"a": [2]}]], ("rows", 0, (), 0)
        view = [("make", ("node", ()), "0#0"), ["x"], ("call", ("0#0", "put", args), "0:0"), ("take", (1, letter), None)]
        self.told(first_wrong(PLAN, 0, view), 1)
        self.told(view[1:3], [["x"], ("call", ("0#0", "put", [[1, {"a": [2]}]]), "0:0")])
        view = list(self.view)
        house = again_of(PLAN, 0, view)
        house.make("node")
        self.told(view, self.view)
        view.clear()
        self.told(house.view()[:-1], self.view)


class Cuts(Web):
    """A web in which a house is another one behind each deed: its copy, one read from its text, or one done again."""

    ways = (lambda house: house.copy(), lambda house: read_house(str(house)),
            lambda house: again_of(PLAN, house._number, house.view()))
    each = 1

    def post(self, number, *, again=False):
        super().post(number, again=again)
        count = len(self.houses[number].view())
        if count < 40 or count % self.each == 0:
            way = self.ways[count % 3]
            self.houses[number] = way(self.houses[number])


class Cut(Case):
    def alike(self, seed, many, deeds, often, each):
        webs = []
        for kind in (Web, Cuts):
            draw = random.Random(seed)
            web = kind(PLAN, many)
            web.each = each
            drawn(web, draw, deeds, often=often)
            drawn_more(web, draw)
            webs.append(web)
        one, other = webs
        self.told(one.acts, other.acts)
        self.assertEqual(one.net, other.net)
        for house, second in zip(one.houses, other.houses):
            self.assertTrue(house == second)
            self.told(house.view(), second.view())
            self.told((house.things(), house.names(), house.held(), house.line()),
                      (second.things(), second.names(), second.held(), second.line()))
            self.told([house.settled(name) for name in house.held()], [second.settled(name) for name in second.held()])
            self.told([house.stands(name) for name in house.things()], [second.stands(name) for name in second.things()])

    def test_without_falls(self):
        for seed in range(12):
            with self.subTest(seed):
                self.alike(seed, 1 + seed % 6, 18, 0.0, 11)

    def test_through_falls(self):
        for seed in range(12):
            with self.subTest(seed):
                self.alike(100 + seed, 2 + seed % 5, 18, 0.04, 11)

    def test_amid_a_round(self):
        webs = []
        for kind in (Web, Cuts):
            web = kind(PLAN, 3)
            draw = random.Random(3)
            drawn(web, draw, 15, often=0.0)
            web.settle(draw)
            web.round(4, draw)
            web.let_all_go()
            web.round(5, draw)
            webs.append(web)
        self.told(webs[0].all_names(), {0: [], 1: [], 2: []})
        self.told(webs[1].all_names(), webs[0].all_names())
        self.assertTrue(all(one == other for one, other in zip(webs[0].houses, webs[1].houses)))

    def test_a_cut_is_for_itself(self):
        house = busy()
        text, view = str(house), house.view()
        for other in (house.copy(), read_house(text), again_of(PLAN, house._number, view)):
            for name in other.held():
                other.call(name, "put", args=(1,))
            while other.turn():
                pass
            other.post()
            other.mark(99)
            other.make("node")
            for number in range(6):
                if number != house._number:
                    other.lost(number)
            other.clear(99)
            other.sweep()
            self.told((str(house), house.view()), (text, view))
            self.assertFalse(house == other)
        self.told(house.names(), read_house(text).names())

    def test_told_of_a_turn(self):
        house = again_of(PLAN, 0, [("make", ("node", ()), "0#0"), ("call", ("0#0", "get", ()), "0:0"),
                                   ("turn", (), ("0:0", "0#0", "get", (), kept(), ()))])
        self.told((house.turn(), house.settled("0:0")), (None, kept()))


if __name__ == "__main__":
    unittest.main()
