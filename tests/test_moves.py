"""Moves: points 14, 15, 18 and 19."""

import unittest

from farcalls.errors import NoName
from farcalls.houses import House
from helpers import Case
from test_houses import Far, kept, to
from web import LOST, PLAN, Web


class Moves(Far):
    def go(self, number, name, house):
        """Has a thing go to a house, by a call put there."""
        call = self.web.call(number, name, "go", house)
        self.web.settle()
        return call

    def test_a_thing_goes(self):
        web = self.web
        web.call(0, "0#0", "put", 7)
        call = web.call(0, "0#0", "go", 1)
        web.turn(0)
        self.told(web[0].things(), ["0#0"])
        self.told(web.turn(0), (call, "0#0", "go", (1,), kept(to("0#0")), ()))
        # on its way it stands nowhere
        self.told(web[0].things(), [])
        self.told(web[1].things(), ["1#0"])
        self.refused(NoName, {"name": "0#0"}, web[0].stands, "0#0")
        self.told(web[0].settled(call), kept(to("0#0")))
        web.taken(0, 1)
        self.told(web[1].things(), ["0#0", "1#0"])
        self.told(web[1].stands("0#0"), ("node", {"one": 7, "two": None}))
        self.told(web[0].settled("0#0"), ("thing",))
        self.told(web[1].held(), ["1#0"])

    def test_going_to_where_it_is(self):
        web = self.web
        web.call(0, "0#0", "go", 0)
        web.turn(0)
        self.told(web[0].things(), ["0#0"])
        self.told(web[0].post(), [])

    def test_a_broken_act_moves_nothing(self):
        # the maker's own one worth is no hold, so the act breaks behind its move
        web = self.web
        maker = web.make(0, "maker")
        call = web.call(0, maker, "go", 1)
        web.turn(0)
        self.told(web[0].settled(call), ("broken", "odd"))
        self.told(web[0].things(), ["0#0", maker])

    def test_the_last_move_counts(self):
        plan = (("a", (), (("m", (), (("move", 1), ("move", 2))), ("n", (), (("move", 1), ("move", 0))))),)
        web = Web(plan, 3)
        name = web.make(0, "a")
        web.call(0, name, "n")
        web.settle()
        self.told(web[0].things(), [name])
        web.call(0, name, "m")
        web.settle()
        self.told([house.things() for house in web.houses], [[], [], [name]])

    def test_its_calls_in_the_line_go_along(self):
        web = self.web
        other = web.make(0, "node")
        web.call(0, "0#0", "go", 1)
        first = web.call(0, "0#0", "put", 1)
        stays = web.call(0, other, "get")
        second = web.call(0, "0#0", "get")
        there = web.call(1, "1#0", "get")
        web.turn(0)
        self.told(web[0].line(), [stays])
        web.taken(0, 1)
        self.told(web[1].line(), [there, first, second])
        web.settle()
        self.told(web[0].settled(second), kept(1))
        self.told([row[0] for number, row in web.acts if number == 1], [there, first, second])

    def test_what_it_puts_itself_goes_along(self):
        plan = (("a", (("n", 0),), (("m", (), (("call", "v", ("me",), "n", ()), ("move", 1), ("give", ("var", "v")))),
                                    ("n", (), (("give", ("is", 5)),)))),)
        web = Web(plan, 2)
        name = web.make(0, "a")
        call = web.call(0, name, "m")
        web.turn(0)
        self.told(web[0].line(), [])
        web.taken(0, 1)
        self.told(web[1].line(), ["0:0.0"])
        web.settle()
        self.told(web[0].settled(call), kept(5))

    def test_what_waits_on_its_calls_goes_along(self):
        web = self.web
        self.go(0, "0#0", 0)
        web.call(0, "0#0", "go", 1)
        me = web.call(0, "0#0", "self")
        on_me = web.call(0, me, "put", 5)
        web.turn(0)
        # the last one acts there, though nothing comes back
        web.taken(0, 1)
        web.turn(1)
        self.told(web[1].line(), [on_me])

    def test_calls_find_it(self):
        web = self.web
        self.share((1, "0#0"), (2, "0#0"))
        self.go(0, "0#0", 1)
        for number in range(3):
            call = web.call(number, "0#0", "self")
            web.settle()
            self.told(web[number].settled(call), kept(to("0#0")))
            self.told(web.acts[-1][0], 1)
        self.go(2, "0#0", 2)
        self.go(1, "0#0", 0)
        self.go(1, "0#0", 1)
        for number in range(3):
            call = web.call(number, "0#0", "self")
            web.settle()
            self.told(web[number].settled(call), kept(to("0#0")))
        self.told([house.things() for house in web.houses], [[], ["0#0", "1#0"], ["2#0"]])

    def test_calls_on_their_way_while_it_goes(self):
        web = self.web
        self.share((1, "0#0"), (2, "0#0"))
        calls = [web.call(number, "0#0", "put", number) for number in (1, 2)]
        web.call(0, "0#0", "go", 2)
        web.turn(0)
        # the calls come to house 0 when the thing has left it, and to house 2 ahead of it
        web.taken(1, 0)
        web.taken(2, 0)
        late = web.call(2, "0#0", "get")
        self.told([house.line() for house in web.houses], [[], [], []])
        web.settle()
        acts = [row[0] for _, row in web.acts]
        self.assertLess(acts.index(calls[1]), acts.index(late))
        self.told([web[1].settled(calls[0]), web[2].settled(calls[1])], [kept(), kept()])

    def test_holds_that_come_by_others(self):
        web = self.web
        self.share((1, "0#0"))
        self.go(0, "0#0", 2)
        web.offer(1, 2, "0#0")
        web.offer(0, 1, "0#0")
        web.settle()
        call = web.call(2, "0#0", "get")
        self.told(web[2].line(), [call])

    def test_answers_of_what_went_along(self):
        web = self.web
        self.share((1, "0#0"))
        web.call(0, "0#0", "go", 2)
        call = web.call(1, "0#0", "get")
        web.taken(1, 0)
        watch = web.call(1, "1#0", "watch", to(call))
        web.settle()
        self.told(web[1].settled(call), kept())
        self.told(web.rows()[-1][0], f"{watch}.0")

    def test_a_when_finds_its_thing(self):
        web = self.web
        self.share((0, "1#0"))
        call = web.call(0, "1#0", "get")
        watch = web.call(0, "0#0", "watch", to(call))
        web.turn(0)
        self.go(0, "0#0", 2)
        self.told(web.acts[-1], (2, (f"{watch}.0", "0#0", "seen", (1, None), kept(), ((1, None),))))

    def test_there_and_back(self):
        web = self.web
        for k in range(30):
            web.call(0, "0#0", "go", (1, 2, 1, 0)[k % 4])
            web.call(0, "0#0", "put", k)
        call = web.call(0, "0#0", "get")
        web.settle()
        self.told(web[0].settled(call), kept(29))
        self.told([row[3][0] for row in web.rows() if row[2] == "put"], list(range(30)))


class Order(Far):
    def first(self, *calls):
        """These acted in this order."""
        acts = [row[0] for row in self.web.rows()]
        places = [acts.index(call) for call in calls]
        self.told(places, sorted(places))

    def test_letters_that_overtake(self):
        web = self.web
        self.share((0, "1#0"))
        calls = [web.call(0, "1#0", "put", k) for k in range(5)]
        for at in reversed(range(len(web.net))):
            web.take(at)
        web.settle()
        self.first(*calls)

    def test_elder_calls_that_are_under_way_when_it_comes(self):
        # house 1 calls the thing, which comes to it ahead of that call
        web = self.web
        self.share((1, "0#0"))
        elder = web.call(1, "0#0", "put", 1)
        web.call(0, "0#0", "go", 1)
        web.turn(0)
        letters = [row for row in web.net if row[:2] == (0, 1)]
        web.net = [row for row in web.net if row not in letters]
        for _, _, letter in letters:
            web[1].take(0, letter)
        self.told(web[1].things(), ["0#0", "1#0"])
        younger = web.call(1, "0#0", "put", 2)
        while web[1].line():
            web.turn(1)
        web.settle()
        self.first(elder, younger)
        self.told(web[1].stands("0#0")[1]["one"], 2)

    def test_elder_calls_when_it_came_and_left(self):
        web = self.web
        self.share((1, "0#0"))
        elder = web.call(1, "0#0", "put", 1)
        web.call(0, "0#0", "go", 1)
        web.turn(0)
        web.taken(0, 1)
        younger = web.call(1, "0#0", "put", 2)
        web.call(1, "0#0", "go", 2)
        web.settle()
        self.first(elder, younger)
        self.told(web[2].stands("0#0")[1]["one"], 2)

    def test_things_as_well_as_outsides(self):
        web = self.web
        self.share((1, "0#0"))
        web.call(1, "1#0", "tell", to("0#0"), 1)
        web.turn(1)
        web.call(0, "0#0", "go", 1)
        web.turn(0)
        web.taken(0, 1)
        younger = web.call(1, "0#0", "put", 2)
        web.settle()
        self.first("1:0.0", younger)

    def test_through_promises(self):
        web = self.web
        self.share((0, "1#0"), (1, "2#0"))
        web.call(1, "1#0", "put", to("2#0"))
        web.settle()
        promise = web.call(0, "1#0", "get")
        one = web.call(0, promise, "put", 1)
        web.settle()
        two = web.call(0, promise, "put", 2)
        three = web.call(0, promise, "put", 3)
        web.settle()
        self.first(one, two, three)

    def test_through_a_known_promise(self):
        # what it came to is known at house 0 while elder calls on it are under way
        web = self.web
        self.share((0, "1#0"), (1, "2#0"), (0, "2#0"))
        web.call(1, "1#0", "put", to("2#0"))
        web.settle()
        promise = web.call(0, "1#0", "get")
        one = web.call(0, promise, "put", 1)
        web.taken(0, 1)
        web.turn(1)
        kept_back = [row for row in web.net if row[:2] == (1, 2)]
        web.net = [row for row in web.net if row[:2] != (1, 2)]
        web.settle()
        two = web.call(0, promise, "put", 2)
        web.settle()
        web.net.extend(kept_back)
        web.settle()
        self.first(one, two)
        self.told(web[2].stands("2#0")[1]["one"], 2)

    def test_through_a_promise_whose_call_goes_along(self):
        web = self.web
        self.share((1, "0#0"))
        web.call(0, "0#0", "go", 1)
        promise = web.call(1, "0#0", "self")
        one = web.call(1, promise, "put", 1)
        web.taken(1, 0)
        web.turn(0)
        web.taken(0, 1)
        two = web.call(1, promise, "put", 2)
        web.settle()
        self.first(promise, one, two)


class Homes(Far):
    """Calls that might go straight to the house where a thing was made."""

    def test_a_house_that_forgot_it(self):
        # the thing went from 2 to 1, and 2 keeps nothing of it; 0 knows it by 1
        web = self.web
        self.share((1, "2#0"))
        web.call(1, "2#0", "go", 1)
        web.settle()
        web[2].let_go("2#0")
        web[1].let_go("1:0")
        web.sweeps()
        self.told(web[2].names(), [])
        web.offer(1, 0, "2#0")
        web.settle()
        calls = [web.call(0, "2#0", "put", 1), web.call(0, "2#0", "put", 2)]
        web.settle()
        self.told([web[0].settled(call) for call in calls], [kept(), kept()])
        calls.append(web.call(0, "2#0", "get"))
        web.settle()
        self.told(web[0].settled(calls[-1]), kept(2))
        web.let_all_go()
        web.sweeps()
        self.told(web.all_names(), {0: [], 1: [], 2: []})

    def test_a_house_that_forgot_it_and_came_to_know_it_again(self):
        web = self.web
        self.share((1, "0#0"))
        web.call(1, "0#0", "go", 1)
        web.settle()
        web[0].let_go("0#0")
        web[1].let_go("1:0")
        web.sweeps()
        self.told(web[0].names(), [])
        web.offer(1, 0, "0#0")
        web.offer(1, 2, "0#0")
        web.settle()
        for number in (0, 2, 1):
            call = web.call(number, "0#0", "self")
            web.settle()
            self.told(web[number].settled(call), kept(to("0#0")))
            self.told(web.acts[-1][0], 1)

    def test_a_house_that_was_told_as_the_place_and_forgot_it(self):
        # house 0 was told by 1 that the thing stands at 2, from where it went to 1 since
        web = self.web
        self.share((1, "2#0"))
        web.offer(1, 0, "2#0")
        web.settle()
        web.call(1, "2#0", "go", 1)
        web.settle()
        web[2].let_go("2#0")
        web[1].let_go("1:0")
        web.sweeps()
        self.told(web[2].names(), [])
        calls = [web.call(0, "2#0", "put", 1), web.call(0, "2#0", "put", 2)]
        web.settle()
        calls.append(web.call(0, "2#0", "get"))
        web.settle()
        self.told([web[0].settled(call) for call in calls], [kept(), kept(), kept(2)])
        self.told([row[:2] for _, row in web.acts[-3:]], [(call, "2#0") for call in calls])
        web.let_all_go()
        web.sweeps()
        self.told(web.all_names(), {0: [], 1: [], 2: []})

    def test_a_thing_on_its_way_back(self):
        # house 0 was told by 2 that the thing went back to 1, where it is yet to come
        web = self.web
        self.share((2, "1#0"))
        web.call(1, "1#0", "go", 2)
        web.settle()
        web.call(2, "1#0", "go", 1)
        web.turn(2)
        web.net = []
        web.offer(2, 0, "1#0")
        web.taken(2, 0)
        call = web.call(0, "1#0", "self")
        web.taken(0, 1)
        self.told(web[1].line(), [])
        web.settle()
        self.told(web[0].settled(call), kept(to("1#0")))
        self.told(web.acts[-1][0], 1)

    def test_a_thing_that_came_ahead_of_the_answer(self):
        # house 0, which knew the thing by 2 alone, asked 1 for it; the thing comes by 2 ahead of what 1 tells
        web = self.web
        self.share((2, "1#0"))
        web.offer(2, 0, "1#0")
        web.settle()
        call = web.call(0, "1#0", "put", 7)
        web.taken(0, 1)
        late = [row for row in web.net if row[:2] == (1, 0)]
        web.call(1, "1#0", "go", 2)
        web.call(1, "1#0", "go", 0)
        web.turn(1)
        web.turn(1)
        web.taken(1, 2)
        web.turn(2)
        web.net = [row for row in web.net if row[1] != 0 or row[0] == 2]
        web.taken(2, 0)
        self.told(web[0].things(), ["0#0", "1#0"])
        web.net.extend(late)
        web.settle()
        self.told(web[0].settled(call), kept())
        for number in range(3):
            got = web.call(number, "1#0", "get")
            web.settle()
            self.told(web[number].settled(got), kept(7))
            self.told(web.acts[-1][0], 0)
        web.let_all_go()
        web.sweeps()
        self.told(web.all_names(), {0: [], 1: [], 2: []})

    def test_a_place_that_is_not_known_and_the_house_where_it_was_made(self):
        # house 3 knows of the thing by 0, of house 2 by the thing's name, of house 1, where it stands, by nothing
        web = Web(PLAN, 4)
        thing, node = web.make(2, "node"), web.make(3, "node")
        web.offer(2, 1, thing)
        web.offer(3, 0, node)
        web.settle()
        web.call(1, thing, "go", 1)
        web.settle()
        web.offer(1, 0, thing)
        web.settle()
        web.call(0, node, "put", to(thing))
        web.settle()
        one = web.call(0, node, "get")
        two = web.call(0, one, "put", 8)
        web.taken(0, 3)
        web.turn(3)
        web.net = [row for row in web.net if row[1] != 0]
        web.taken(3, 2)
        web.taken(2, 1)
        self.told(web[1].line(), [two])
        web.settle()
        self.told(web[0].settled(two), kept())

    def test_a_house_that_fell(self):
        # 0 knows the thing, which stands at 1, by 1; house 2, where it was made, has fallen
        web = self.web
        self.share((1, "2#0"))
        web.call(1, "2#0", "go", 1)
        web.settle()
        web.offer(1, 0, "2#0")
        web.settle()
        web.fall(2)
        web.lost(0, 2)
        web.lost(1, 2)
        call = web.call(0, "2#0", "get")
        web.settle()
        self.assertIn(web[0].settled(call), (kept(), LOST))

    def test_names_told_by_the_thing_s_own_house_and_by_others(self):
        web = self.web
        self.share((0, "2#0"))
        web.offer(0, 1, "2#0")
        web.settle()
        for _ in range(2):
            call = web.call(1, "2#0", "self")
            web.settle()
            self.told(web[1].settled(call), kept(to("2#0")))
        for name in ("2#0", "0#0"):
            if name in web[0].held():
                web[0].let_go(name)
        web[2].let_go("2#0")
        web.sweeps()
        self.told(web.all_names(), {0: [], 1: ["1#0", "1:0", "1:1", "2#0"], 2: ["1:0", "1:1", "2#0"]})
        web.let_all_go()
        web.sweeps()
        self.told(web.all_names(), {0: [], 1: [], 2: []})


class Once(Far):
    def test_every_letter_again_and_again(self):
        web = self.web
        self.share((0, "1#0"), (1, "2#0"))
        letters = []
        for k in range(4):
            web.call(0, "1#0", "ask", to("1#0"))
            web.call(1, "1#0", "go", (2, 1)[k % 2])
            for _ in range(30):
                letters.extend(web.net)
                for sender, house, letter in letters:
                    web[house].take(sender, letter)
                web.net = []
                for number in range(3):
                    web.turn(number)
                    web.post(number, again=True)
        web.net = []
        web.settle()
        acts = [row[0] for row in web.rows()]
        self.told(sorted(set(acts)), sorted(acts))
        self.told(len(acts), 12)
        self.told([name for house in web.houses for name in house.things()], ["0#0", "1#0", "2#0"])


class Alone(Case):
    def test_going_off_with_no_one_there(self):
        house = House(PLAN, 0)
        node = house.make("node")
        house.call(node, "go", args=(4,))
        call = house.call(node, "get")
        house.turn()
        self.told(house.things(), [])
        self.told(house.turn(), None)
        self.told([number for number, _ in house.post()], [4])
        self.told(house.settled(call), ("open",))


if __name__ == "__main__":
    unittest.main()
