"""Houses: points 11 to 13, 15 to 17, and of point 3 what refusals tell."""

import copy
import unittest

from farcalls.errors import BadArgs, BadPlan, NoHouse, NoKind, NoLetter, NoName
from farcalls.houses import House
from helpers import Case, anything
from web import PLAN, Web


def to(name):
    return ("to", name)


def kept(worth=None):
    return ("kept", worth)


class Far(Case):
    """Three houses; a node `0#0`, `1#0`, `2#0` at each, of which each outside holds its own."""

    def setUp(self):
        self.web = Web(PLAN, 3)
        self.nodes = [self.web.make(number, "node") for number in range(3)]

    def share(self, *pairs):
        """Each (house, name) comes to be held there, too."""
        for house, name in pairs:
            self.web.offer(int(name[0]), house, name)
        self.web.settle()

    def told_there(self, number, name, *outcome):
        self.told(self.web[number].settled(name), outcome)


class Made(Case):
    def test_plans_of_anything(self):
        for thing in anything():
            self.refused(BadPlan, {"word": None}, House, thing, 0)
            self.refused(BadPlan, {"word": None}, House, thing, thing)

    def test_numbers_of_anything(self):
        for thing in anything():
            with self.subTest(thing):
                if thing in (0, 1) and not isinstance(thing, bool):
                    self.told(House(PLAN, thing).names(), [])
                else:
                    self.refused(NoHouse, {"house": thing}, House, PLAN, thing)
        for number in (2, 3, 4, 5):
            self.told(House(PLAN, number).make("node"), f"{number}#0")
        self.refused(NoHouse, {"house": 6}, House, PLAN, 6)

    def test_new_one(self):
        house = House(PLAN, 3)
        self.told(house.turn(), None)
        for told in (house.post(), house.again(), house.things(), house.line(), house.held(), house.names()):
            self.told(told, [])
        self.assertEqual(len(house), 0)

    def test_the_plan_stays(self):
        plan = copy.deepcopy(PLAN)
        house = House(plan, 0)
        house.call(house.make("node"), "put", args=(5,))
        house.turn()
        self.told(plan, PLAN)


class Outside(Case):
    def setUp(self):
        self.house = House(PLAN, 2)

    def test_names(self):
        house = self.house
        self.told([house.make("node"), house.make("maker"), house.make("node", args=(1, 2))], ["2#0", "2#1", "2#2"])
        self.told([house.call("2#0", "get"), house.call("2#2", "get"), house.call("2:0", "get")], ["2:0", "2:1", "2:2"])
        self.told(house.make("node"), "2#3")
        self.told(house.held(), ["2#0", "2#1", "2#2", "2#3", "2:0", "2:1", "2:2"])
        self.told(house.names(), house.held())
        self.assertEqual(len(house), 7)
        self.told(house.things(), ["2#0", "2#1", "2#2", "2#3"])
        self.told(house.line(), ["2:0", "2:1"])
        self.told(house.stands("2#2"), ("node", {"one": 1, "two": 2}))
        self.told(house.stands("2#1"), ("maker", {"one": None, "two": None}))

    def test_make_refused(self):
        house = self.house
        for thing in anything():
            with self.subTest(thing):
                self.refused(NoKind, {"kind": thing}, house.make, thing)
                self.refused(NoKind, {"kind": thing}, house.make, thing, args=thing)
                self.not_args(thing, lambda args: house.make("node", args=args))
        self.refused(BadArgs, {"asked": (1, 2, 3)}, house.make, "node", args=(1, 2, 3))
        self.refused(BadArgs, {"asked": (to("2#9"), True)}, house.make, "node", args=(to("2#9"), True))
        self.refused(NoName, {"name": "2#9"}, house.make, "node", args=((1, to("2#9")), to("2#8")))

    def not_args(self, thing, do):
        """Anything is refused where args are asked for, but for args without holds."""
        if thing in ((), (None,), ("a",)):
            do(thing)
        elif thing == (to("0#9"),):
            self.refused(NoName, {"name": "0#9"}, do, thing)
        else:
            self.refused(BadArgs, {"asked": thing}, do, thing)

    def test_call_refused(self):
        house = self.house
        node = house.make("node")
        for thing in anything():
            with self.subTest(thing):
                self.refused(NoName, {"name": thing}, house.call, thing, "get")
                self.refused(NoName, {"name": thing}, house.call, thing, thing, args=thing)
                if thing not in ("a", "abcdefgh", "to"):
                    self.refused(BadArgs, {"asked": thing}, house.call, node, thing)
                    self.refused(BadArgs, {"asked": thing}, house.call, node, thing, args=None)
                self.not_args(thing, lambda args: house.call(node, "get", args=args))
        self.refused(BadArgs, {"asked": (1, 2, 3, 4, 5, 6)}, house.call, node, "get", args=(1, 2, 3, 4, 5, 6))
        self.refused(BadArgs, {"asked": [1]}, house.call, node, "get", args=[1])
        self.refused(NoName, {"name": "1:7"}, house.call, node, "get", args=(to(node), (to("1:7"), to("2#9"))))
        self.told(house.call(node, "get"), "2:3")

    def test_refused_calls_change_nothing(self):
        house = self.house
        node = house.make("node")
        for args in ((to("2#9"),), (True,), None):
            for do in (lambda: house.make("node", args=args), lambda: house.call(node, "get", args=args)):
                with self.assertRaises((NoName, BadArgs)):
                    do()
        self.told(house.names(), [node])
        self.told(len(house.view()), 1)
        self.told([house.make("node"), house.call(node, "get")], ["2#1", "2:0"])

    def test_let_go(self):
        house = self.house
        node, other = house.make("node"), house.make("node")
        call = house.call(node, "get")
        house.let_go(node)
        self.told(house.held(), [other, call])
        for thing in anything() + [node, "0#0"]:
            with self.subTest(thing):
                for do in (house.let_go, house.settled, lambda name: house.call(name, "get"),
                           lambda name: house.offer(1, name)):
                    self.refused(NoName, {"name": thing}, do, thing)
        self.refused(NoName, {"name": node}, house.make, "node", args=(to(other), to(node)))
        self.told(house.turn(), (call, node, "get", (), kept(), ()))
        self.told(house.names(), [node, other, call])

    def test_what_is_no_other_house(self):
        house = self.house
        node = house.make("node")
        for thing in anything() + [2, 6, 7]:
            with self.subTest(thing):
                if thing not in (0, 1) or isinstance(thing, bool):
                    self.refused(NoHouse, {"house": thing}, house.offer, thing, node)
                    self.refused(NoHouse, {"house": thing}, house.offer, thing, "2#9")
                    self.refused(NoHouse, {"house": thing}, house.take, thing, ("rows", 0, (), 0))
                    self.refused(NoHouse, {"house": thing}, house.take, thing, None)
                    self.refused(NoHouse, {"house": thing}, house.lost, thing)
        self.told(house.again(), [])

    def test_letters_of_anything(self):
        for thing in anything():
            if not isinstance(thing, tuple):
                self.refused(NoLetter, {"asked": thing}, self.house.take, 1, thing)
        self.house.lost(1)
        for thing in anything():
            if not isinstance(thing, tuple):
                self.refused(NoLetter, {"asked": thing}, self.house.take, 1, thing)
        self.told(len(self.house.view()), 1)

    def test_stands_of_anything(self):
        call = self.house.call(self.house.make("node"), "get")
        for thing in anything() + [call, "2#1"]:
            self.refused(NoName, {"name": thing}, self.house.stands, thing)

    def test_what_is_told_is_the_asker_s_own(self):
        house = self.house
        node = house.make("node")
        call = house.call(node, "get")
        house.things().clear()
        house.line().clear()
        house.held().clear()
        house.names().clear()
        house.post().append(1)
        house.stands(node)[1]["one"] = 7
        self.told(house.things(), [node])
        self.told(house.line(), [call])
        self.told(house.held(), [node, call])
        self.told(house.names(), [node, call])
        self.told(house.post(), [])
        self.told(house.stands(node), ("node", {"one": None, "two": None}))

    def test_args_told_are_plain(self):
        class Odd(tuple):
            """A kind made from tuple."""

        node = self.house.make("node", args=Odd([Odd([1, Odd()])]))
        self.told(self.house.stands(node)[1]["one"], (1, ()))
        self.house.call(node, "put", args=Odd([Odd([2])]))
        self.told(self.house.turn(), ("2:0", node, "put", ((2,),), kept(), ()))
        self.told(self.house.stands(node)[1]["one"], (2,))

    def test_outcomes_are_held(self):
        house = self.house
        maker = house.make("maker")
        call = house.call(maker, "put", args=(7,))
        house.let_go(maker)
        self.told(house.held(), [call])
        self.told(house.settled(call), ("open",))
        house.turn()
        self.told(house.settled(call), kept(to("2:0#0")))
        self.told(house.settled("2:0#0"), ("thing",))
        self.told(house.held(), ["2:0", "2:0#0"])
        house.let_go("2:0#0")
        self.told(house.held(), ["2:0"])
        self.told(house.settled(call), kept(to("2:0#0")))

    def test_outcomes_that_are_let_go_are_not_held(self):
        house = self.house
        maker = house.make("maker")
        call = house.call(maker, "put", args=(7,))
        house.let_go(call)
        house.turn()
        self.told(house.held(), [maker])
        self.told(house.things(), ["2#0", "2:0#0"])

    def test_an_outcome_that_hangs_is_not_held(self):
        house = self.house
        node = house.make("node")
        call = house.call(node, "ask", args=(to(node),))
        self.told(house.turn(), (call, node, "ask", (to(node),), kept(to("2:0.0")), ()))
        self.told(house.settled(call), ("open",))
        self.told(house.held(), [node, call])
        house.turn()
        self.told(house.settled(call), kept())
        self.told(house.held(), [node, call])
        self.told(house.names(), [node, call, "2:0.0"])

    def test_rows_of_outcomes_that_are_held(self):
        # each promise is settled by a row that holds the next one; who comes to hold the last one holds them all
        house, other = self.house, House(PLAN, 1)
        node = house.make("node")
        names = [house.call(node, "get")]
        house.turn()
        for k in range(390):
            cell = house.make("node", args=((to(names[-1]), k % 7),))
            names.append(house.call(cell, "get"))
            house.turn()
            house.let_go(cell)
        for name in names[:-1]:
            house.let_go(name)
        self.told(house.held(), sorted([node, names[-1]]))
        house.offer(1, names[-1])
        for _ in range(900):
            for one, two in ((house, other), (other, house)):
                for _, letter in one.post():
                    two.take(1 if two is house else 2, letter)
        self.told(other.held(), sorted(names))
        # what it holds already brings nothing anew; what it comes to hold once more does
        for name in names[:-1]:
            other.let_go(name)
        house.offer(1, names[-1])
        for _, letter in house.post():
            other.take(2, letter)
        self.told(other.held(), [names[-1]])
        other.let_go(names[-1])
        house.offer(1, names[-1])
        for _, letter in house.post():
            other.take(2, letter)
        self.told(other.held(), sorted(names))


class Calls(Far):
    def test_a_call_goes_there_and_its_answer_back(self):
        web = self.web
        self.share((0, "1#0"))
        call = web.call(0, "1#0", "put", 7)
        self.told(web[0].line(), [])
        self.told(web[1].line(), [])
        web.taken(0, 1)
        self.told(web[1].line(), [call])
        self.told_there(0, call, "open")
        self.told(web.turn(1), (call, "1#0", "put", (7,), kept(), ()))
        self.told_there(0, call, "open")
        web.taken(1, 0)
        self.told_there(0, call, "kept", None)
        self.told(web[1].stands("1#0"), ("node", {"one": 7, "two": None}))

    def test_offers(self):
        web = self.web
        self.told(web[1].held(), ["1#0"])
        web.offer(0, 1, "0#0")
        self.told(web[1].held(), ["1#0"])
        web.taken(0, 1)
        self.told(web[1].held(), ["0#0", "1#0"])
        self.told(web[1].settled("0#0"), ("thing",))
        self.told(web[0].held(), ["0#0"])
        self.refused(NoName, {"name": "0#0"}, web[1].stands, "0#0")
        self.told(web[1].things(), ["1#0"])

    def test_offers_go_by_again_too(self):
        web = self.web
        web[0].offer(1, "0#0")
        (house, letter), = web[0].again()
        self.told(house, 1)
        web[1].take(0, letter)
        self.told(web[1].held(), ["0#0", "1#0"])

    def test_a_promise_is_offered_ahead_of_its_settling(self):
        web = self.web
        call = web.call(0, "0#0", "self")
        web.offer(0, 1, call)
        web.settle()
        self.told(web[1].settled(call), kept(to("0#0")))
        self.told(web[1].held(), ["0#0", "0:0", "1#0"])

    def test_a_known_promise_is_offered(self):
        web = self.web
        call = web.call(0, "0#0", "self")
        web.settle()
        web.offer(0, 2, call)
        web.settle()
        self.told(web[2].settled(call), kept(to("0#0")))

    def test_args_come_along(self):
        web = self.web
        self.share((0, "1#0"), (0, "2#0"))
        web.call(0, "1#0", "put", (to("2#0"), to("0#0")))
        web.settle()
        self.told(web[1].stands("1#0")[1]["one"], (to("2#0"), to("0#0")))
        self.told(web[1].held(), ["1#0"])
        self.told(web[1].names(), ["0#0", "0:0", "1#0", "2#0"])

    def test_things_call_far_things(self):
        web = self.web
        self.share((0, "1#0"), (0, "2#0"))
        web.call(0, "2#0", "put", 9)
        call = web.call(0, "1#0", "ask", to("2#0"))
        web.settle()
        self.told_there(0, call, "kept", 9)
        self.told(web.rows()[-1], ("0:1.0", "2#0", "get", (), kept(9), ()))
        self.told(web.acts[-1][0], 2)

    def test_things_wait_for_far_promises(self):
        web = self.web
        self.share((0, "1#0"))
        call = web.call(0, "0#0", "get")
        watch = web.call(0, "1#0", "watch", to(call))
        web.taken(0, 1)
        web.turn(1)
        self.told(web[1].line(), [])
        web.settle()
        self.told(web.rows()[-1], (f"{watch}.0", "1#0", "seen", (1, None), kept(), ((1, None),)))

    def test_broken_ones(self):
        web = self.web
        maker = web.make(1, "maker")
        self.share((0, maker), (0, "1#0"))
        call = web.call(0, maker, "fail")
        on_it = web.call(0, call, "get")
        watch = web.call(0, "1#0", "watch", to(on_it))
        web.settle()
        self.told_there(0, call, "broken", "sad")
        self.told_there(0, on_it, "broken", "sad")
        self.told_there(0, watch, "kept", None)
        self.told(web.rows()[-1][3:], ((0, "sad"), kept("sad"), ((0, "sad"),)))
        after = web.call(0, on_it, "get")
        odd = web.call(0, watch, "get")
        web.settle()
        self.told_there(0, after, "broken", "sad")
        self.told_there(0, odd, "broken", "odd")

    def test_hanging_over_several_houses(self):
        web = self.web
        self.share((0, "1#0"), (0, "2#0"))
        end = web.call(0, "0#0", "self")
        web.call(0, "2#0", "put", to(end))
        call = web.call(0, "1#0", "ask", to("2#0"))
        on_it = web.call(0, call, "get")
        web.settle()
        self.told_there(0, call, "kept", to("0#0"))
        self.told(web.acts[-1], (0, (on_it, "0#0", "get", (), kept(), ())))

    def test_rings_over_houses_stay_open(self):
        web = self.web
        self.share((0, "1#0"), (1, "0#0"))
        one = web.call(0, "1#0", "ask", to("0#0"))
        web.call(0, "0#0", "put", to(one))
        on_it = web.call(0, one, "get")
        web.settle()
        self.told_there(0, one, "open")
        self.told_there(0, on_it, "open")
        self.told([web[number].post() + web[number].again() for number in range(3)], [[], [], []])


class Rows(Far):
    """Rows of calls, each on the promise of the one ahead."""

    def linked(self):
        """1#0 holds 2#0, which holds 0#0."""
        self.share((1, "2#0"), (2, "0#0"), (0, "1#0"))
        self.web.call(1, "1#0", "put", to("2#0"))
        self.web.call(2, "2#0", "put", to("0#0"))
        self.web.settle()

    def test_a_row_goes_out_at_once(self):
        web = self.web
        self.linked()
        one = web.call(0, "1#0", "get")
        two = web.call(0, one, "put", 8)
        web.taken(0, 1)
        web.turn(1)
        self.assertIn((1, 2), [row[:2] for row in web.net])
        # no letter comes back to house 0
        web.taken(1, 2)
        self.told(web[2].line(), [two])
        web.turn(2)
        self.told(web[2].stands("2#0")[1]["one"], 8)
        self.told_there(0, two, "open")
        web.settle()
        self.told_there(0, two, "kept", None)

    def test_what_waits_behind_goes_along(self):
        web = Web(PLAN, 6)
        nodes = [web.make(number, "node") for number in range(6)]
        for number in range(5):
            web.offer(number + 1, number, nodes[number + 1])
            web.settle()
            web.call(number, nodes[number], "put", to(nodes[number + 1]))
        web.settle()
        name = nodes[1]
        calls = [name := web.call(0, name, "get") for _ in range(5)]
        for number in range(1, 6):
            web.net = [row for row in web.net if row[1] >= number]
            web.taken(number - 1, number)
            self.told(web[number].line(), [calls[number - 1]])
            web.turn(number)
        self.told(web.acts[-1], (5, (calls[-1], nodes[5], "get", (), kept(), ())))
        self.told([web[0].settled(call) for call in calls], [("open",)] * 5)

    def test_what_the_first_house_told_the_others_of(self):
        # house 0 knows all, and the others know of one another by it alone
        web = self.web
        self.share((0, "1#0"), (0, "2#0"))
        web.call(0, "1#0", "put", to("2#0"))
        one = web.call(0, "1#0", "get")
        two = web.call(0, one, "put", 8)
        web.taken(0, 1)
        web.turn(1)
        web.turn(1)
        web.net = [row for row in web.net if row[1] != 0]
        web.taken(1, 2)
        self.told(web[2].line(), [two])

    def straight(self, name):
        """House 0, which alone told house 1 of a thing at house 2, puts a row of calls, of which nothing comes back."""
        web = self.web
        web.call(0, "1#0", "put", to(name))
        web.settle()
        one = web.call(0, "1#0", "get")
        two = web.call(0, one, "self")
        three = web.call(0, two, "put", 8)
        web.taken(0, 1)
        web.turn(1)
        web.net = [row for row in web.net if row[1] != 0]
        web.taken(1, 2)
        self.told([web.turn(2)[0], web.turn(2)[0]], [two, three])
        self.told(web[2].stands(name)[1]["one"], 8)
        web.settle()
        self.told_there(0, three, "kept", None)

    def test_a_thing_made_by_an_act(self):
        maker = self.web.make(2, "maker")
        self.share((0, maker), (0, "1#0"), (1, "2#0"))
        made = self.web.call(0, maker, "put", 5)
        self.web.settle()
        self.straight(f"{made}#0")

    def test_a_thing_that_moved(self):
        self.share((0, "1#0"), (1, "2#0"))
        self.web.call(0, "0#0", "go", 2)
        self.web.settle()
        self.straight("0#0")

    def test_a_thing_that_came_back_and_went_on(self):
        self.share((0, "1#0"), (1, "2#0"))
        for house in (1, 2, 1, 0, 2):
            self.web.call(0, "0#0", "go", house)
            self.web.settle()
        self.straight("0#0")

    def test_a_thing_at_a_house_that_is_not_known(self):
        # house 1 was told of house 2 by no name, and writes to it no letter: the thing's calls go by house 0
        web = self.web
        maker = web.make(2, "maker")
        self.share((0, maker), (0, "1#0"))
        made = web.call(0, maker, "put", 5)
        web.settle()
        web.call(0, "1#0", "put", to(f"{made}#0"))
        one = web.call(0, "1#0", "get")
        two = web.call(0, one, "get")
        web.taken(0, 1)
        while web[1].line():
            web.turn(1)
        self.assertNotIn((1, 2), [row[:2] for row in web.net])
        web.settle()
        self.told_there(0, two, "kept", 5)

    def test_long_rows(self):
        web = self.web
        self.share((0, "1#0"))
        call = web.call(0, "1#0", "self")
        calls = [call] + [call := web.call(0, call, "self") for _ in range(390)]
        watch = web.call(0, "0#0", "watch", to(call))
        web.taken(0, 1)
        self.told(web[1].line(), [calls[0]])
        web.settle()
        self.told([row[0] for row in web.rows() if row[1] == "1#0"], calls)
        self.told(web[0].settled(call), kept(to("1#0")))
        self.told(web.rows()[-1], (f"{watch}.0", "0#0", "seen", (1, to("1#0")), kept(to("1#0")), ((1, to("1#0")),)))

    def test_long_rows_that_break(self):
        web = self.web
        self.share((0, "1#0"))
        call = web.call(0, "1#0", "none")
        calls = [call := web.call(0, call, "self") for _ in range(390)]
        web.settle()
        self.told([web[0].settled(name) for name in calls], [("broken", "odd")] * 390)

    def test_long_rows_that_hang(self):
        # each asks the next one, in another house, ahead of any answer
        web = self.web
        self.share((0, "1#0"), (1, "0#0"))
        call = web.call(0, "1#0", "get")
        first = call
        for k in range(190):
            web.call(0, f"{k % 2}#0", "put", to(call))
            call = web.call(0, f"{k % 2}#0", "get")
        web.settle()
        self.told(web[0].settled(call), web[0].settled(first))


class Letters(Far):
    def posts(self, number):
        return [house for house, _ in self.web[number].post()]

    def agains(self, number):
        return [house for house, _ in self.web[number].again()]

    def test_post_tells_what_is_new(self):
        one, two = self.web[0], self.web[1]
        one.offer(2, "0#0")
        one.offer(1, "0#0")
        self.told(self.posts(0), [1, 2])
        self.told(self.posts(0), [])
        self.told(self.agains(0), [1, 2])
        self.told(self.agains(0), [1, 2])
        letter = dict(one.again())[1]
        two.take(0, letter)
        self.told(self.agains(1), [])
        (house, back), = two.post()
        self.told(house, 0)
        self.told(self.posts(1), [])
        one.take(1, back)
        self.told(self.posts(0), [])
        self.told(self.agains(0), [2])

    def test_what_is_heard_once_more_is_told_again(self):
        one, two = self.web[0], self.web[1]
        one.offer(1, "0#0")
        (_, letter), = one.post()
        two.take(0, letter)
        self.told(self.posts(1), [0])
        two.take(0, letter)
        (_, back), = two.post()
        one.take(1, back)
        self.told(self.agains(0), [])
        one.take(1, back)
        self.told(self.posts(0), [])

    def test_again_tells_what_is_new_too(self):
        one = self.web[0]
        one.offer(1, "0#0")
        self.told(self.agains(0), [1])
        self.told(self.posts(0), [])
        one.offer(1, "0#0")
        self.told(self.posts(0), [1])

    def test_letters_lost_doubled_and_kept_back(self):
        web = self.web
        self.share((0, "1#0"))
        house = web[0]
        calls = [house.call("1#0", "put", args=(k,)) for k in range(3)]
        letters = []
        for k in range(3, 6):
            letters.append(dict(house.post())[1])
            calls.append(house.call("1#0", "put", args=(k,)))
        letters.append(dict(house.again())[1])
        for letter in reversed(letters):
            web[1].take(0, letter)
            web[1].take(0, letter)
        self.told(web[1].line(), calls)
        for letter in letters:
            web[1].take(0, letter)
        self.told(web[1].line(), calls)

    def test_letters_are_plain(self):
        class Odd(tuple):
            """A kind made from tuple."""

        web = self.web
        self.share((0, "1#0"))
        web[0].call("1#0", "put", args=Odd([Odd([to("0#0"), 1])]))
        web.post(0)
        self.assertEqual(len(web.net), 1)
        web.settle()
        self.told(web[1].stands("1#0")[1]["one"], (to("0#0"), 1))

    def test_letters_that_can_not_be_taken(self):
        for letter in ((), (1,), ("a", "b", "c")):
            self.refused(NoLetter, {"asked": letter}, self.web[0].take, 1, letter)
        self.told(self.web[0].post(), [])


if __name__ == "__main__":
    unittest.main()
