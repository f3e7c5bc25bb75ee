"""Lost houses: points 20 to 22, and of point 24 what is kept through falls."""

import random
import unittest

from farcalls.entries import Asking
from farcalls.goings import free
from farcalls.houses import House
from farcalls.insides import Inside
from helpers import Case
from test_houses import Far, kept, to
from web import LOST, PLAN, Web


class Told(Far):
    def test_nothing_goes_to_a_lost_house(self):
        web = self.web
        house = web[0]
        house.offer(1, "0#0")
        house.lost(1)
        self.told(house.post(), [])
        self.told(house.again(), [])
        house.offer(1, "0#0")
        self.told(house.again(), [])

    def test_letters_of_a_lost_house_are_passed_over(self):
        web = self.web
        web.offer(1, 0, "1#0")
        (_, _, letter), = web.net
        web[0].lost(1)
        self.told(web[0].take(1, letter), None)
        self.told(web[0].held(), ["0#0"])
        web[0].take(1, ("what", "ever"))
        web[0].take(1, ())
        self.told(web[0].view()[-1], ("take", (1, ()), None))
        self.told(web[0].post(), [])

    def test_letters_posted_ahead_may_be_taken(self):
        web = self.web
        web.offer(1, 0, "1#0")
        web.fall(1)
        web.taken(1, 0)
        self.told(web[0].held(), ["0#0", "1#0"])

    def test_told_again(self):
        web = self.web
        self.share((0, "1#0"))
        call = web.call(0, "1#0", "get")
        web.lost(0, 1)
        self.told(web[0].settled(call), LOST)
        names, texts = web[0].names(), web[0].settled(call)
        web[0].lost(1)
        self.told((web[0].names(), web[0].settled(call)), (names, texts))
        self.told(web[0].view()[-1], ("lost", (1,), None))

    def test_a_thing_stays_where_it_is(self):
        house = House(PLAN, 0)
        house.lost(4)
        node = house.make("node")
        call = house.call(node, "go", args=(4,))
        self.told(house.turn(), (call, node, "go", (4,), kept(to(node)), ()))
        self.told(house.things(), [node])
        self.told(house.post(), [])


class Lost(Far):
    def test_calls_on_what_stood_there(self):
        web = self.web
        self.share((0, "1#0"))
        call = web.call(0, "1#0", "get")
        on_it = web.call(0, call, "get")
        watch = web.call(0, "0#0", "watch", to(on_it))
        web.turn(0)
        web.fall(1)
        web.lost(0, 1)
        self.told_there(0, call, "broken", "lost")
        self.told_there(0, on_it, "broken", "lost")
        web.settle()
        self.told(web.rows()[-1], (f"{watch}.0", "0#0", "seen", (0, "lost"), kept("lost"), ((0, "lost"),)))
        later = web.call(0, "1#0", "get")
        self.told_there(0, later, "broken", "lost")
        self.told(web[0].settled("1#0"), ("thing",))

    def test_what_acted_and_was_told_stays(self):
        web = self.web
        self.share((0, "1#0"))
        call = web.call(0, "1#0", "self")
        web.settle()
        web.fall(1)
        web.lost(0, 1)
        self.told_there(0, call, "kept", to("1#0"))
        on_it = web.call(0, call, "get")
        self.told_there(0, on_it, "broken", "lost")

    def test_an_answer_that_was_posted_ahead(self):
        web = self.web
        self.share((0, "1#0"))
        call = web.call(0, "1#0", "get")
        web.taken(0, 1)
        web.turn(1)
        web.fall(1)
        web.taken(1, 0)
        web.lost(0, 1)
        self.told_there(0, call, "kept", None)

    def test_what_has_to_do_with_other_houses(self):
        web = self.web
        self.share((0, "1#0"))
        call = web.call(0, "1#0", "get")
        web.fall(2)
        web.lost(0, 2)
        self.told_there(0, call, "open")
        web.settle()
        web.lost(1, 2)
        self.told_there(0, call, "kept", None)

    def test_what_hangs_on_a_lost_one(self):
        web = self.web
        self.share((0, "1#0"), (1, "2#0"))
        call = web.call(0, "1#0", "ask", to("1#0"))
        far = web.call(1, "1#0", "ask", to("2#0"))
        web.offer(1, 0, far)
        web.taken(0, 1)
        web.taken(1, 0)
        while web[1].line():
            web.turn(1)
        web.fall(2)
        web.lost(1, 2)
        web.settle()
        self.told(web[1].settled(far), LOST)
        self.told_there(0, far, "broken", "lost")
        self.told_there(0, call, "kept", None)

    def test_a_fallen_house_on_the_way(self):
        # house 0 knows the thing, which went on from 1 to 2, by house 1
        web = self.web
        self.share((0, "1#0"))
        web.call(1, "1#0", "go", 2)
        web.settle()
        call = web.call(0, "1#0", "get")
        web.fall(1)
        web.lost(0, 1)
        web.lost(2, 1)
        web.settle()
        self.told_there(0, call, "broken", "lost")
        self.told(web[2].things(), ["1#0", "2#0"])

    def test_told_by_one_who_is_told_later(self):
        # house 1 stands between, and comes to know of the fall later than house 0
        web = self.web
        self.share((1, "2#0"))
        web.call(1, "1#0", "ask", to("2#0"))
        self.share((0, "1#0"))
        call = web.call(0, "1#0", "self")
        ask = web.call(1, "2#0", "get")
        web.offer(1, 0, ask)
        web.taken(1, 0)
        web.fall(2)
        web.lost(0, 2)
        web.settle()
        self.told_there(0, ask, "open")
        web.lost(1, 2)
        web.settle()
        self.told_there(0, ask, "broken", "lost")
        self.told_there(0, call, "kept", to("1#0"))

    def test_a_thing_on_its_way_to_a_fallen_house(self):
        web = self.web
        web.call(0, "0#0", "go", 1)
        behind = web.call(0, "0#0", "get")
        web.turn(0)
        web.fall(1)
        web.lost(0, 1)
        self.told_there(0, behind, "broken", "lost")
        self.told_there(0, web.call(0, "0#0", "get"), "broken", "lost")
        self.told([house.things() for house in (web[0], web[2])], [[], ["2#0"]])

    def test_a_thing_that_came_from_a_fallen_house(self):
        web = self.web
        self.share((2, "1#0"))
        web.call(1, "1#0", "go", 0)
        web.turn(1)
        web.fall(1)
        web.taken(1, 0)
        web.lost(0, 1)
        web.lost(2, 1)
        self.told(web[0].things(), ["0#0", "1#0"])
        web.offer(0, 2, "0#0")
        call = web.call(2, "1#0", "get")
        self.told(web[2].settled(call), LOST)

    def test_a_younger_call_does_not_wait_for_a_lost_one(self):
        # the elder call is under way by house 1 when the thing comes; house 1 falls with it
        web = self.web
        web.call(0, "0#0", "go", 1)
        self.share((2, "0#0"))
        elder = web.call(2, "0#0", "put", 1)
        web.taken(2, 0)
        web.call(1, "1#0", "get")
        web.offer(1, 0, "1#0")
        web.settle()
        self.told(web[2].settled(elder), kept())
        back = web.call(0, "0#0", "go", 2)
        web.taken(0, 1)
        web.turn(1)
        elder = web.call(2, "0#0", "put", 3)
        web.taken(2, 0)
        web.taken(1, 2)
        web.net = [row for row in web.net if row[1] != 1]
        younger = web.call(2, "0#0", "put", 4)
        web.turn(2)
        web.fall(1)
        web.lost(0, 1)
        web.lost(2, 1)
        web.settle()
        self.told(web[2].settled(elder), LOST)
        self.told(web[2].settled(younger), kept())
        self.told(web[2].stands("0#0")[1]["one"], 4)
        self.assertIn(web[0].settled(back), (LOST, kept(to("0#0"))))

    def test_nothing_waits_for_ever(self):
        for told in ((0, 1, 2), (2, 1, 0), (1, 2, 0)):
            web = Web(PLAN, 4)
            nodes = [web.make(number, "node") for number in range(4)]
            for number in range(4):
                for other in range(4):
                    if other != number:
                        web.offer(number, other, nodes[number])
            web.settle()
            calls = []
            for number in range(3):
                for other in range(4):
                    asked = web.call(number, nodes[other], "ask", to(nodes[3]))
                    calls.append((number, asked))
                    calls.append((number, web.call(number, asked, "self")))
                    calls.append((number, web.call(number, nodes[number], "watch", to(asked))))
            for _ in range(5):
                web.turn(0)
                if web.net:
                    web.take(len(web.net) // 2)
            web.fall(3)
            for number in told:
                web.lost(number, 3)
                web.settle()
            for number, call in calls:
                self.assertNotEqual(web[number].settled(call), ("open",))


class Elder(Case):
    """A call on a thing is kept back on its way by house 2, while the thing goes on, and a younger one comes to it."""

    def start(self, *houses, by_promise=False, by_call=False):
        """The thing `0#0` has the calls to go to 2, 1 and these houses, and came to 1; the elder call is behind it."""
        self.web = web = Web(PLAN, 5)
        thing = web.make(0, "node")
        web.offer(0, 1, thing)
        web.settle()
        self.name = thing
        if by_promise:
            holder = web.make(1, "node", to(thing))
            self.name = web.call(1, holder, "get")
            web.settle()
        for house in (2, 1) + houses:
            web.call(0, thing, "go", house)
        if by_call:
            # the name is the promise of a call that goes along in the line
            self.name = web.call(1, thing, "self")
            web.taken(1, 0)
        web.turn(0)
        web.net = [row for row in web.net if row[:2] == (0, 2)]
        self.elder = web.call(1, self.name, "put", 1)
        web.taken(1, 0)
        web.take(0)
        self.kept_back = [row for row in web.net if row[:2] == (0, 2)]
        web.net = [row for row in web.net if row[:2] != (0, 2)]
        web.turn(2)
        web.taken(2, 1)
        self.told(web[1].things()[0], thing)

    def comes(self, sender, house):
        """Turns and letters, none again; those from one house to another one are lost."""
        web, draw, going = self.web, random.Random(0), True
        while going:
            web.net = [row for row in web.net if row[:2] != (sender, house)]
            going = web.step(draw)

    def first(self, *calls):
        """These acted, in this order."""
        acts = [row[0] for row in self.web.rows() if row[0] in calls]
        self.told(acts, list(calls))

    def test_it_comes_at_last(self):
        for by_promise in (False, True):
            self.start(3, by_promise=by_promise)
            younger = self.web.call(1, self.name, "put", 2)
            self.told(self.web[1].line()[1:], [])
            self.web.turn(1)
            self.web.taken(1, 3)
            self.told(self.web[3].line(), [])
            self.web.net.extend(self.kept_back)
            self.web.settle()
            self.first(self.elder, younger)

    def test_what_waits_goes_along_there_and_back(self):
        for by_call in (False, True):
            self.start(3, 1, 3, by_call=by_call)
            web = self.web
            younger = web.call(1, self.name, "put", 2)
            for one, other in ((1, 3), (3, 1), (1, 3)):
                web.turn(one)
                web.taken(one, other)
                self.told(web[other].things()[0], "0#0")
            web.net.extend(self.kept_back)
            web.settle()
            self.first(self.elder, younger)
            self.told([web[1].settled(call) for call in (self.elder, younger)], [kept(), kept()])

    def test_it_is_lost_and_the_younger_one_goes_on(self):
        for by_promise in (False, True):
            self.start(by_promise=by_promise)
            web = self.web
            younger = web.call(1, self.name, "put", 2)
            web.fall(2)
            web.tell_all()
            web.settle()
            self.told(web[1].settled(self.elder), LOST)
            self.told(web[1].settled(younger), kept())
            self.first(younger)

    def test_it_is_lost_and_the_younger_one_went_along(self):
        for by_promise in (False, True):
            self.start(3, by_promise=by_promise)
            web = self.web
            younger = web.call(1, self.name, "put", 2)
            last = web.call(1, self.name, "put", 3)
            web.turn(1)
            web.taken(1, 3)
            web.fall(2)
            web.tell_all()
            web.settle()
            self.told(web[1].settled(self.elder), LOST)
            self.told([web[1].settled(call) for call in (younger, last)], [kept(), kept()])
            self.first(younger, last)
            self.told(web[3].stands("0#0")[1]["one"], 3)

    def test_the_house_that_put_both_falls(self):
        # the younger one waits at 3 till house 1 is known as lost; then the thing goes to where the elder one comes
        self.start(3, 2)
        web = self.web
        web.offer(1, 0, self.elder)
        web.taken(1, 0)
        web.turn(1)
        web.taken(1, 3)
        younger = web.call(1, "0#0", "put", 2)
        web.offer(1, 3, younger)
        web.taken(1, 3)
        web.net = [row for row in web.net if row[:2] != (0, 2)]
        web.fall(1)
        web.lost(3, 1)
        self.assertIn(younger, web[3].line())
        web.turn(3)
        web.taken(3, 2)
        web.net.extend(self.kept_back)
        web.settle()
        web.tell_all()
        web.settle()
        acts = [row[0] for row in web.rows()]
        self.assertIn(younger, acts)
        if self.elder in acts and acts.index(self.elder) > acts.index(younger):
            self.assertIn(LOST, (web[0].settled(self.elder), web[3].settled(younger)))
        self.assertNotEqual(web[0].settled(self.elder), ("open",))

    def test_a_call_that_comes_where_it_is_known_as_lost(self):
        # it goes from 0 by 1 to 2, and from there after the thing to 0, where house 1 was told as lost meanwhile
        web = Web(PLAN, 3)
        thing = web.make(1, "node")
        web.offer(1, 0, thing)
        web.settle()
        web.call(1, thing, "go", 2)
        web.call(1, thing, "go", 0)
        call = web.call(0, thing, "put", 1)
        web.offer(0, 2, call)
        web.turn(1)
        letters = [row for row in web.net if row[:2] == (1, 2)]
        web.net = [row for row in web.net if row[:2] != (1, 2)]
        web.taken(0, 1)
        late = [row for row in web.net if row[:2] == (1, 2)]
        web.net = letters
        web.take(0)
        web.turn(2)
        web.taken(2, 0)
        self.told(web[0].things(), [thing])
        web.fall(1)
        web.lost(0, 1)
        self.told(web[0].settled(call), LOST)
        web.net.extend(late)
        web.offer(0, 2, call)
        web.settle()
        web.tell_all()
        web.settle()
        self.told(web[0].settled(call), LOST)
        self.assertNotEqual(web[2].settled(call), ("open",))
        web.let_all_go()
        web.sweeps()
        self.told(web.all_names(), {0: [], 2: []})

    def test_a_lost_one_between_two_that_are_not(self):
        # three calls of house 1 go to where the thing stood when they were put; of these house 2, with the second, falls
        self.web = web = Web(PLAN, 4)
        thing = web.make(0, "node")
        for house in (1, 2, 3):
            web.offer(0, house, thing)
        web.settle()
        calls = [web.call(1, thing, "put", 1)]
        for number, house in ((0, 2), (2, 3)):
            web.call(number, thing, "go", house)
            self.comes(1, 0)
            for other in (0, 1):
                web.offer(house, other, thing)
            self.comes(1, 0)
            calls.append(web.call(1, thing, "put", house))
            if house == 2:
                web.net = []
        self.told([row[:2] for row in web.net], [(1, 3)])
        self.comes(1, 0)
        web.fall(2)
        web.tell_all()
        self.comes(1, 0)
        self.told([web[1].settled(call) for call in calls], [("open",), LOST, ("open",)])
        web.settle()
        self.told([web[1].settled(call) for call in calls], [kept(), LOST, kept()])
        self.first(calls[0], calls[2])

    def test_a_promise_that_was_settled_at_a_fallen_house(self):
        # the first call went by house 1 and stands in the line here; for the next one the way is lost
        web = Web(PLAN, 3)
        node, holder = web.make(0, "node"), web.make(1, "node")
        web.offer(0, 1, node)
        web.offer(1, 0, holder)
        web.settle()
        web.call(1, holder, "put", to(node))
        web.settle()
        promise = web.call(0, holder, "get")
        first = web.call(0, promise, "put", 1)
        web.taken(0, 1)
        web.turn(1)
        web.taken(1, 0)
        self.told(web[0].line(), [first])
        web.fall(1)
        web.tell_all()
        second = web.call(0, promise, "put", 2)
        web.settle()
        self.assertNotEqual(web[0].settled(second), ("open",))
        self.assertNotEqual(web[0].settled(first), ("open",))


class Freed(Case):
    def test_what_was_told_first_may_come_last(self):
        # the number up to which a younger call waits only ever sinks: it was told so by way of several houses
        inside = Inside(PLAN, 0)
        inside.know("1#0")
        inside.know("1:0")
        for told, elders in (((5, 7, None, 2), (5, 5, None, None)), ((None, 8), (None, None)), ((9, 8, 3), (9, 8, 3))):
            inside.calls["1:0"] = Asking("1#0", "get", (), (1, 9, 9))
            for elder, wanted in zip(told, elders):
                free(inside, "1:0", "1#0", elder)
                self.told(inside.calls["1:0"].stamp, (1, 9, wanted))
        free(inside, "1:0", "1#1", None)
        self.told(inside.calls["1:0"].stamp, (1, 9, 3))


class Kept(Far):
    def test_what_never_came_to_the_fallen_house(self):
        web = self.web
        self.share((0, "1#0"))
        promise = web.call(0, "1#0", "self")
        web.settle()
        web.fall(2)
        web.lost(0, 2)
        web.lost(1, 2)
        web.sweeps()
        web.round(1)
        call = web.call(0, promise, "put", 4)
        web.settle()
        self.told_there(0, call, "kept", None)
        self.told(web[1].stands("1#0")[1]["one"], 4)
        self.told(web[0].names(), ["0#0", promise, call, "1#0"])

    def test_made_by_acts_of_calls_of_a_house_that_fell(self):
        # what house 2 asked to be made was never told to it
        web = self.web
        maker = web.make(1, "maker")
        self.share((2, maker), (0, maker))
        web.call(2, maker, "put", 6)
        web.taken(2, 1)
        web.fall(2)
        web.turn(1)
        new = f"{web.rows()[-1][0]}#0"
        got = web.call(0, maker, "get")
        web.settle()
        web.lost(0, 2)
        web.lost(1, 2)
        self.told_there(0, got, "kept", to(new))
        call = web.call(0, new, "get")
        web.settle()
        self.told_there(0, call, "kept", 6)


class Judge(Case):
    def test_a_thing_acts_at_one_house_only(self):
        # the thing leaves a house that falls, and nothing of it is there twice
        web = Web(PLAN, 3)
        node = web.make(0, "node")
        web.offer(0, 1, node)
        web.settle()
        web.call(0, node, "go", 1)
        web.turn(0)
        web.fall(0)
        web.lost(2, 0)
        web.taken(0, 1)
        web.lost(1, 0)
        call = web.call(1, node, "get")
        web.settle()
        self.told(web[1].settled(call), kept())
        self.told(web[1].things(), [node])


if __name__ == "__main__":
    unittest.main()
