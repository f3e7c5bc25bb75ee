"""What is kept and what is let go of: points 23 to 26."""

import unittest

from farcalls.errors import NoRound
from farcalls.houses import House
from helpers import Case, anything
from test_houses import Far, kept, to
from web import PLAN, Web


class Alone(Case):
    def setUp(self):
        self.house = House(PLAN, 0)

    def test_what_is_held_stays(self):
        house = self.house
        node, maker = house.make("node"), house.make("maker")
        call = house.call(node, "put", args=(to(maker),))
        house.turn()
        house.sweep()
        self.told(house.names(), [node, maker, call])
        house.let_go(maker)
        house.let_go(call)
        self.told(house.names(), [node, maker, call])
        house.sweep()
        self.told(house.names(), [node, maker])
        self.told(house.things(), [node, maker])
        house.let_go(node)
        house.sweep()
        self.told((house.names(), house.things(), len(house)), ([], [], 0))

    def test_a_settled_promise_holds_what_it_came_to(self):
        house = self.house
        call = house.call(house.make("maker"), "put", args=(7,))
        house.turn()
        house.let_go("0:0#0")
        house.sweep()
        self.told(house.names(), ["0#0", "0:0", "0:0#0"])
        self.told(house.stands("0:0#0"), ("node", {"one": 7, "two": None}))
        self.told(house.stands("0#0")[1]["two"], to("0:0#0"))
        house.let_go("0#0")
        house.sweep()
        self.told(house.names(), ["0:0", "0:0#0"])
        on_it = house.call(call, "get")
        house.turn()
        self.told(house.settled(on_it), kept(7))

    def test_calls_that_can_act_stay(self):
        house = self.house
        node = house.make("node")
        me = house.call(node, "self")
        on_me = house.call(me, "put", args=(to(node),))
        watch = house.call(node, "watch", args=(to(me),))
        for name in house.held():
            house.let_go(name)
        house.sweep()
        self.told(house.names(), [node, me, on_me, watch])
        house.turn()
        house.sweep()
        self.told(house.line(), [watch, on_me])
        self.told(house.names(), [node, me, on_me, watch])
        house.turn()
        house.sweep()
        self.told(house.line(), [on_me, f"{watch}.0"])
        house.turn()
        house.turn()
        self.told(house.stands(node)[1], {"one": to(node), "two": to(node)})
        house.sweep()
        self.told(house.names(), [])

    def test_args_of_calls_that_can_act_stay(self):
        house = self.house
        node, other = house.make("node"), house.make("node", args=(8,))
        house.call(node, "ask", args=(to(other),))
        house.let_go(other)
        house.sweep()
        house.turn()
        house.turn()
        self.told(house.settled("0:0"), kept(8))

    def test_open_promises_that_hang_on_themselves(self):
        house = self.house
        maker = house.make("maker")
        house.call(maker, "self")
        house.turn()
        house.turn()
        for name in house.held():
            house.let_go(name)
        house.sweep()
        house.mark(3)
        house.clear(3)
        house.sweep()
        self.told(house.names(), [])

    def test_what_is_held_stays_in_rounds(self):
        house = self.house
        maker, node = house.make("maker"), house.make("node")
        house.call(maker, "self")
        house.turn()
        house.turn()
        # a promise that hangs on itself, and what waits on it, held by the promise of what waits on that
        waits = house.call("0:0", "mine")
        house.turn()
        behind = house.call(waits, "put", args=(to(node),))
        watch = house.call(node, "watch", args=(to(waits),))
        house.turn()
        for name in house.held():
            if name != behind:
                house.let_go(name)
        house.mark(1)
        house.clear(1)
        house.sweep()
        self.told(house.names(), [maker, node, "0:0", "0:0.0", waits, behind, f"{watch}.0"])

    def test_numbers_of_rounds(self):
        house = self.house
        for thing in anything():
            with self.subTest(thing):
                self.refused(NoRound, {"number": thing}, house.clear, thing)
                if thing not in (1, 7, 10 ** 29) or isinstance(thing, bool):
                    self.refused(NoRound, {"number": thing}, house.mark, thing)
        house.mark(3)
        for number in (1, 3, 0, -4):
            self.refused(NoRound, {"number": number}, house.mark, number)
        for number in (1, 4, True, None):
            self.refused(NoRound, {"number": number}, house.clear, number)
        house.mark(7)
        self.refused(NoRound, {"number": 3}, house.clear, 3)
        self.told(house.clear(7), None)
        self.refused(NoRound, {"number": 7}, house.clear, 7)
        self.refused(NoRound, {"number": 7}, house.mark, 7)
        self.told(house.mark(10 ** 29), None)
        self.told(house.clear(10 ** 29), None)
        self.told([entry[:2] for entry in house.view()],
                  [("mark", (3,)), ("mark", (7,)), ("clear", (7,)), ("mark", (10 ** 29,)), ("clear", (10 ** 29,))])

    def test_true_is_no_number_of_a_round(self):
        self.house.mark(1)
        self.refused(NoRound, {"number": True}, self.house.clear, True)
        self.refused(NoRound, {"number": True}, House(PLAN, 0).mark, True)

    def test_long_rows_of_what_holds(self):
        house = self.house
        last = house.make("node")
        names = [last]
        for _ in range(800):
            last = house.make("node", args=(to(last),))
            names.append(last)
        for name in names[:-1]:
            house.let_go(name)
        house.sweep()
        self.told(len(house), 801)
        house.mark(1)
        house.clear(1)
        house.sweep()
        self.told(house.names(), sorted(names))
        house.let_go(last)
        house.sweep()
        self.told(house.names(), [])


class Sweeps(Far):
    def test_what_another_house_holds_stays(self):
        web = self.web
        self.share((1, "0#0"))
        web[0].let_go("0#0")
        web.sweeps()
        self.told(web[0].names(), ["0#0"])
        call = web.call(1, "0#0", "get")
        web.settle()
        self.told(web[1].settled(call), kept())
        web[1].let_go("0#0")
        web[1].let_go(call)
        web.sweeps()
        self.told(web[0].names(), [])
        self.told(web[1].names(), ["1#0"])

    def test_what_is_on_its_way_stays(self):
        web = self.web
        web.offer(0, 1, "0#0")
        web[0].let_go("0#0")
        for _ in range(3):
            web[0].sweep()
        web.settle()
        web.sweeps()
        self.told([web[0].names(), web[1].held()], [["0#0"], ["0#0", "1#0"]])

    def test_what_goes_to_and_fro_stays(self):
        # house 1 gives the name back while house 0 tells it once more
        web = self.web
        self.share((1, "0#0"))
        web.offer(0, 1, "0#0")
        web[0].let_go("0#0")
        web[1].let_go("0#0")
        web[1].sweep()
        web.post(1)
        web.taken(1, 0)
        web[0].sweep()
        web.settle()
        web.sweeps()
        self.told(web[1].settled("0#0"), ("thing",))
        self.told(web[0].things(), ["0#0"])
        web[1].let_go("0#0")
        web.sweeps()
        self.told(web[0].names(), [])

    def test_a_sweep_that_finds_nothing_brings_no_letter(self):
        web = self.web
        self.share((1, "0#0"), (2, "0#0"))
        web.sweeps()
        for number in range(3):
            web[number].sweep()
            self.told(web[number].post(), [])
            self.told(web[number].again(), [])

    def test_names_told_on(self):
        # 2 knows the thing by 1, who holds it no more
        web = self.web
        self.share((1, "0#0"))
        web.offer(1, 2, "0#0")
        web.settle()
        web[0].let_go("0#0")
        web[1].let_go("0#0")
        web.sweeps()
        call = web.call(2, "0#0", "self")
        web.settle()
        self.told(web[2].settled(call), kept(to("0#0")))
        web[2].let_go("0#0")
        web[2].let_go(call)
        web.sweeps()
        self.told([house.names() for house in web.houses], [[], ["1#0"], ["2#0"]])

    def test_fields_far_away(self):
        web = self.web
        self.share((0, "1#0"), (0, "2#0"))
        web.call(0, "1#0", "put", to("2#0"))
        web.settle()
        for name in ("0:0", "2#0"):
            web[0].let_go(name)
        web[2].let_go("2#0")
        web.sweeps()
        self.told(web[2].names(), ["2#0"])
        web.call(0, "1#0", "put", 5)
        web.settle()
        web[0].let_go("0:1")
        web.sweeps()
        self.told(web[2].names(), [])

    def test_moved_things(self):
        web = self.web
        self.share((1, "0#0"))
        for house in (1, 2, 0, 2):
            web.call(1, "0#0", "go", house)
            web.settle()
        for name in web[1].held():
            if name != "0#0":
                web[1].let_go(name)
        web[0].let_go("0#0")
        web.sweeps()
        self.told(web[1].settled("0#0"), ("thing",))
        self.told(web[2].things(), ["0#0", "2#0"])
        web[1].let_go("0#0")
        web.sweeps()
        self.told([house.names() for house in web.houses], [[], [], ["2#0"]])

    def test_answers_held_by_nobody(self):
        web = self.web
        self.share((0, "1#0"))
        call = web.call(0, "1#0", "ask", to("1#0"))
        web[0].let_go(call)
        web[0].sweep()
        web.settle()
        web.sweeps()
        # the thing itself holds the promise of what it asked
        self.told([web[0].names(), web[1].names()], [["0#0", "1#0"], ["0:0.0", "1#0"]])

    def test_a_fallen_house_holds_nothing(self):
        web = self.web
        self.share((1, "0#0"), (2, "0#0"))
        web[0].let_go("0#0")
        web.fall(1)
        web[2].let_go("0#0")
        web.sweeps()
        self.told(web[0].names(), ["0#0"])
        web.lost(0, 1)
        web.lost(2, 1)
        web.sweeps()
        self.told(web[0].names(), [])

    def test_names_of_a_fallen_house(self):
        web = self.web
        self.share((0, "1#0"), (2, "1#0"))
        web.fall(1)
        web.lost(0, 1)
        web.lost(2, 1)
        self.told(web[0].names(), ["0#0", "1#0"])
        web[0].let_go("1#0")
        web.sweeps()
        self.told(web[0].names(), ["0#0"])
        self.told(web[2].names(), ["1#0", "2#0"])

    def test_rings_may_stay_for_sweeps_and_go_by_rounds(self):
        web = self.web
        self.share((0, "1#0"), (1, "0#0"))
        web.call(0, "0#0", "put", to("1#0"))
        web.call(1, "1#0", "put", to("0#0"))
        web.settle()
        web.let_all_go()
        web.sweeps()
        web.round(5)
        self.told([house.names() for house in web.houses], [[], [], []])

    def test_rings_that_are_held_stay(self):
        web = self.web
        self.share((0, "1#0"), (1, "0#0"), (2, "0#0"))
        web.call(0, "0#0", "put", to("1#0"))
        web.call(1, "1#0", "put", to("0#0"))
        web.settle()
        for number in (0, 1):
            for name in web[number].held():
                web[number].let_go(name)
        web.round(5)
        self.told([house.things() for house in web.houses], [["0#0"], ["1#0"], ["2#0"]])
        call = web.call(2, "0#0", "get")
        web.settle()
        self.told(web[2].settled(call), kept(to("1#0")))
        web[2].let_go("1#0")
        web.round(6)
        self.told([house.things() for house in web.houses], [["0#0"], ["1#0"], ["2#0"]])

    def test_rings_of_promises(self):
        web = self.web
        self.share((0, "1#0"), (1, "0#0"))
        one = web.call(0, "1#0", "ask", to("0#0"))
        web.call(0, "0#0", "put", to(one))
        web.call(1, "1#0", "watch", to("0#0"))
        behind = web.call(0, one, "get")
        watch = web.call(0, "0#0", "watch", to(behind))
        web.settle()
        self.told(web[0].settled(behind), ("open",))
        for name in web[0].held():
            if name != behind:
                web[0].let_go(name)
        web.round(1)
        # the promise that is held holds what it was put on, that hangs on a ring, and the when that waits on it its thing
        self.assertLessEqual({one, behind, f"{watch}.0", "0#0"}, set(web[0].names()))
        web.let_all_go()
        web.round(2)
        self.told(web.all_names(), {0: [], 1: [], 2: []})

    def test_a_when_holds_not_what_it_waits_for(self):
        # the thing is held, the promise that it waits for by nobody: both that and the when go
        web = self.web
        maker = web.make(1, "maker")
        self.share((0, maker), (0, "1#0"))
        ring = web.call(0, maker, "self")
        web.settle()
        got = web.call(0, maker, "mine")
        web.settle()
        web.call(0, "0#0", "watch", to(got))
        web.call(0, "1#0", "watch", to(got))
        web.settle()
        for name in web[0].held():
            if "#" not in name:
                web[0].let_go(name)
        for number in (0, 1):
            for name in (maker,):
                if name in web[number].held():
                    web[number].let_go(name)
        web.round(1)
        self.told(web.all_names(), {0: ["0#0", "1#0"], 1: ["1#0"], 2: ["2#0"]})
        self.assertNotIn(ring, web[0].names())

    def test_a_when_is_held_by_what_it_waits_for(self):
        # of the promise that is held at house 2 the whens wait at houses 0 and 1, and they hold their things
        web = self.web
        maker = web.make(1, "maker")
        self.share((0, maker), (0, "1#0"))
        web.call(0, maker, "self")
        web.settle()
        got = web.call(0, maker, "mine")
        web.call(0, "0#0", "watch", to(got))
        web.call(0, "1#0", "watch", to(got))
        web.offer(0, 2, got)
        web.settle()
        for number in (0, 1):
            for name in web[number].held():
                web[number].let_go(name)
        web.round(1)
        self.assertLessEqual({"0#0", "0:2.0"}, set(web[0].names()))
        self.assertLessEqual({"1#0", "0:3.0"}, set(web[1].names()))
        web[2].let_go(got)
        web.round(2)
        self.told(web.all_names(), {0: [], 1: [], 2: ["2#0"]})

    def test_a_when_at_a_house_that_only_asked(self):
        # both house 0, where the when is, and house 2, which holds the promise, know it by house 1 alone
        web = self.web
        maker = web.make(1, "maker")
        web.call(1, maker, "self")
        web.settle()
        got = web.call(1, maker, "mine")
        self.share((0, got), (2, got))
        web.call(0, "0#0", "watch", to(got))
        web.settle()
        for number in (0, 1):
            for name in web[number].held():
                web[number].let_go(name)
        web.round(1)
        self.assertLessEqual({"0#0", "0:0.0"}, set(web[0].names()))
        web[2].let_go(got)
        web.round(2)
        self.told(web.all_names(), {0: [], 1: [], 2: ["2#0"]})

    def test_a_round_and_a_fall(self):
        # of two calls on one thing that hang for ever, the round takes the younger one
        web = self.web
        maker = web.make(1, "maker")
        self.share((0, maker))
        web.call(0, maker, "self")
        web.settle()
        calls = [web.call(0, maker, "mine") for _ in range(2)]
        web.settle()
        web[0].let_go(calls[1])
        web.round(1)
        self.assertNotIn(calls[1], web[0].names())
        web.fall(1)
        web.tell_all()
        self.told(web[0].settled(calls[0]), ("broken", "lost"))
        call = web.call(0, maker, "get")
        self.told(web[0].settled(call), ("broken", "lost"))

    def test_a_round_that_is_never_cleared(self):
        web = self.web
        self.share((0, "1#0"))
        for number in range(3):
            web[number].mark(4)
            web.post(number)
        web.settle()
        call = web.call(0, "1#0", "get")
        web.settle()
        web[0].let_go(call)
        web.sweeps()
        self.told(web.all_names(), {0: ["0#0", "1#0"], 1: ["1#0"], 2: ["2#0"]})
        web.round(5)
        self.told(web.all_names(), {0: ["0#0", "1#0"], 1: ["1#0"], 2: ["2#0"]})

    def test_rounds_one_behind_the_other(self):
        web = self.web
        self.share((0, "1#0"), (1, "2#0"))
        for number in (1, 2, 9):
            web.round(number)
            self.told(web.all_names(), {0: ["0#0", "1#0"], 1: ["1#0", "2#0"], 2: ["2#0"]})

    def test_letters_between_marks(self):
        web = self.web
        self.share((0, "1#0"), (1, "2#0"))
        web.call(0, "1#0", "put", to("0#0"))
        web.settle()
        web[0].let_go("0#0")
        web[0].let_go("0:0")
        for number in (2, 0, 1):
            web[number].mark(1)
            web.post(number)
            web.settle()
        for number in (1, 0, 2):
            web[number].clear(1)
            web.post(number)
            web.settle()
        web.sweeps()
        self.told(web.all_names(), {0: ["0#0", "1#0"], 1: ["0#0", "1#0", "2#0"], 2: ["2#0"]})

    def test_rounds_through_falls(self):
        web = Web(PLAN, 4)
        nodes = [web.make(number, "node") for number in range(4)]
        for number in range(4):
            web.offer(number, (number + 1) % 4, nodes[number])
        web.settle()
        for number in range(4):
            web.call((number + 1) % 4, nodes[number], "put", to(nodes[(number + 1) % 4]))
        web.settle()
        for number in range(4):
            for name in web[number].held():
                if number != 1 or name != nodes[1]:
                    web[number].let_go(name)
        web.fall(3)
        web.tell_all()
        web.settle()
        web.round(1)
        self.assertLessEqual({nodes[1]}, set(web[1].names()))
        self.told(web[0].names(), [])
        self.assertLessEqual({nodes[2]}, set(web[2].names()))
        web[1].let_go(nodes[1])
        web.round(2)
        self.told(web.all_names(), {0: [], 1: [], 2: []})


if __name__ == "__main__":
    unittest.main()
