"""Worlds: points 32 to 34, and what points 3, 7, 16 and 36 say of them."""

import random
import unittest

from farcalls.errors import BadArgs, BadPlan, Fallen, NoHouse, NoKind, NoName, NoRound, NoWay, TooLong
from farcalls.houses import House
from farcalls.judged import first_odd
from farcalls.worlds import MOST, World
from helpers import Case, anything
from test_houses import kept, to
from web import PLAN, WORDS, worths

# a thing that calls itself for ever
RUNNER = (("a", (), (("run", (), (("call", "v", ("me",), "run", ()),)),)),)


class Worlds(Case):
    """A world of three houses, with a node at each."""

    def setUp(self):
        self.world = World(PLAN)
        for number in range(3):
            self.world.make(number, "node")

    def share(self, *pairs):
        """Each (house, name) comes to be held there, too."""
        for house, name in pairs:
            self.world.offer(int(name[0]), house, name)
        self.world.go()

    def bring(self, sender, house):
        """The letters from one house to another one are taken, in order."""
        for letter, one, other in self.world.net():
            if (one, other) == (sender, house):
                self.world.do(("take", letter))

    def keeps(self, do, *things, **named):
        """What is refused, or asked, changes nothing."""
        copy = self.world.copy()
        do(*things, **named)
        self.assertTrue(self.world == copy)
        self.told(self.world.net(), copy.net())


class Made(Worlds):
    def test_plans_of_anything(self):
        for thing in anything():
            self.refused(BadPlan, {"word": None}, World, thing)
            self.refused(BadPlan, {}, World, thing, many=1)

    def test_new_ones(self):
        self.told(MOST, 2000)
        for many in range(1, 7):
            world = World(PLAN, many=many)
            self.told(world.up(), list(range(many)))
            for told in (world.net(), world.outer(), world.acts(), world.ways()):
                self.told(told, [])
            self.told((world.is_still(), world.step(0), world.go()), (True, None, 0))
            for number in range(many):
                view = [entry for entry in world.house_at(number).view() if entry[0] not in ("post", "again")]
                self.told(view, [("lost", (other,), None) for other in range(many, 6)])
        self.told(World(PLAN).up(), [0, 1, 2])

    def test_nothing_goes_to_houses_that_are_not_there(self):
        self.world.offer(0, 3, "0#0")
        self.world.offer(0, 5, "0#0")
        self.told(self.world.net(), [])
        call = self.world.call(0, "0#0", "go", args=(4,))
        self.world.go()
        self.told((self.world.settled(0, call), self.world.things(0)), (kept(to("0#0")), ["0#0"]))

    def test_a_world_alone(self):
        world = World(PLAN, many=1)
        name = world.make(0, "maker", args=(1,))
        world.call(0, name, "put", args=(2,))
        self.told(world.go(), 1)
        self.told(world.acts(), [(0, ("0:0", "0#0", "put", (2,), kept(to("0:0#0")), ()))])
        world.do(("fall", 0))
        self.told((world.up(), world.ways(), world.go(), world.is_still()), ([], [], 0, True))
        self.refused(Fallen, {"house": 0}, world.make, 0, "maker")


class Deeds(Worlds):
    def of_a_house(self, world):
        """All deeds and asks of a house, which take its number first."""
        return [
            (world.make, ("node",)), (world.call, ("0#0", "get")), (world.offer, (1, "0#0")), (world.let_go, ("0#0",)),
            (world.sweep, ()), (world.mark, (7,)), (world.clear, (7,)), (world.settled, ("0#0",)), (world.stands, ("0#0",)),
            (world.things, ()), (world.names, ()), (world.held, ()), (world.line, ()), (world.house_at, ()),
        ]

    def test_numbers_of_anything(self):
        for do, things in self.of_a_house(self.world):
            for thing in anything() + [3, 4, 5, 6]:
                if thing not in (0, 1, 2) or isinstance(thing, bool):
                    self.keeps(self.refused, NoHouse, {"house": thing}, do, thing, *things)

    def test_fallen_ones(self):
        self.world.do(("fall", 0))
        for do, things in self.of_a_house(self.world):
            self.keeps(self.refused, Fallen, {"house": 0}, do, 0, *things)
            for thing in anything():
                if things:
                    self.refused(Fallen, {"house": 0}, do, 0, *[thing for _ in things])
                    self.refused(NoHouse, {"house": 3}, do, 3, *[thing for _ in things])

    def test_make(self):
        self.told(self.world.make(1, "node", args=(to("1#0"), 5)), "1#1")
        self.told(self.world.stands(1, "1#1"), ("node", {"one": to("1#0"), "two": 5}))
        self.told(self.world.outer()[3:], [("make", "1#1", "node", (to("1#0"), 5))])
        for thing in anything():
            self.keeps(self.refused, NoKind, {"kind": thing}, self.world.make, 1, thing, args=thing)
            if not isinstance(thing, tuple):
                self.keeps(self.refused, BadArgs, {"asked": thing}, self.world.make, 1, "node", args=thing)
        self.keeps(self.refused, BadArgs, {"asked": (1, 2, 3)}, self.world.make, 1, "node", args=(1, 2, 3))
        self.keeps(self.refused, NoName, {"name": "0#0"}, self.world.make, 1, "node", args=(to("1#0"), to("0#0")))

    def test_call(self):
        self.told(self.world.call(2, "2#0", "put", args=((to("2#0"), None),)), "2:0")
        self.told(self.world.call(2, "2:0", "get"), "2:1")
        self.told(self.world.line(2), ["2:0"])
        self.told(self.world.outer()[3:], [("call", "2:0", "2#0", "put", ((to("2#0"), None),)), ("call", "2:1", "2:0", "get", ())])
        for thing in anything():
            self.keeps(self.refused, NoName, {"name": thing}, self.world.call, 2, thing, thing, args=thing)
            if not isinstance(thing, str) or thing not in ("a", "abcdefgh", "to"):
                self.keeps(self.refused, BadArgs, {"asked": thing}, self.world.call, 2, "2#0", thing, args=thing)
            if not isinstance(thing, tuple):
                self.keeps(self.refused, BadArgs, {"asked": thing}, self.world.call, 2, "2#0", "get", args=thing)
        self.keeps(self.refused, NoName, {"name": "1#0"}, self.world.call, 2, "2#0", "put", args=(to("1#0"),))

    def test_offer_and_let_go(self):
        self.told(self.world.offer(1, 0, "1#0"), None)
        self.told(self.world.held(0), ["0#0"])
        self.world.go()
        self.told(self.world.held(0), ["0#0", "1#0"])
        self.told(self.world.settled(0, "1#0"), ("thing",))
        self.told(self.world.let_go(0, "1#0"), None)
        self.told(self.world.held(0), ["0#0"])
        for thing in anything() + [1, 6]:
            if thing not in (0, 2, 3, 4, 5) or isinstance(thing, bool):
                self.keeps(self.refused, NoHouse, {"house": thing}, self.world.offer, 1, thing, "1#0")
            self.keeps(self.refused, NoName, {"name": thing}, self.world.let_go, 2, thing)
            self.keeps(self.refused, NoName, {"name": thing}, self.world.offer, 2, 0, thing)

    def test_rounds(self):
        world = self.world
        call = world.call(0, "0#0", "put", args=(to("0#0"),))
        world.go()
        world.let_go(0, call)
        world.let_go(0, "0#0")
        self.told(world.names(0), ["0#0", "0:0"])
        world.sweep(0)
        self.told(world.names(0), [])
        for number in world.up():
            self.told(world.mark(number, 3), None)
        for thing in anything():
            if isinstance(thing, bool) or not isinstance(thing, int) or thing < 4:
                self.keeps(self.refused, NoRound, {"number": thing}, world.mark, 0, thing)
            if isinstance(thing, bool) or thing != 3:
                self.keeps(self.refused, NoRound, {"number": thing}, world.clear, 0, thing)
        world.go()
        for number in world.up():
            self.told(world.clear(number, 3), None)
            self.refused(NoRound, {"number": 3}, world.clear, number, 3)
        self.told([world.names(number) for number in world.up()], [[], ["1#0"], ["2#0"]])

    def test_asks(self):
        world = self.world
        self.share((0, "1#0"))
        call = world.call(0, "1#0", "self")
        self.told((world.settled(0, call), world.line(0)), (("open",), []))
        self.bring(0, 1)
        self.told((world.line(1), world.things(1), world.names(1)), ([call], ["1#0"], ["0:0", "1#0"]))
        self.told(world.do(("turn", 1)), ("0:0", "1#0", "self", (), kept(to("1#0")), ()))
        world.go()
        self.told((world.settled(0, call), world.held(0)), (kept(to("1#0")), ["0#0", "0:0", "1#0"]))
        for thing in anything():
            self.keeps(self.refused, NoName, {"name": thing}, world.settled, 1, thing)
            self.keeps(self.refused, NoName, {"name": thing}, world.stands, 1, thing)
        self.refused(NoName, {"name": "1#0"}, world.stands, 0, "1#0")

    def posts(self, number, do, *things, letters=1):
        """What a deed of a house has it tell goes on the net at once."""
        ahead = self.world.net()
        do(*things)
        self.told(self.world.house_at(number).post(), [])
        self.told([row for row in self.world.net() if row in ahead], [row for row in ahead if row in self.world.net()])
        self.told(len([row for row in self.world.net() if row not in ahead]), letters)

    def test_each_deed_is_followed_by_post(self):
        world = self.world
        self.share((0, "1#0"), (1, "2#0"))
        self.posts(0, world.make, 0, "node", letters=0)
        self.posts(0, world.call, 0, "1#0", "get")
        self.posts(0, world.offer, 0, 2, "0#0")
        self.posts(0, world.mark, 0, 1)
        self.posts(0, world.let_go, 0, "1#0", letters=0)
        world.go()
        world.let_go(0, "0:0")
        self.posts(0, world.sweep, 0)
        self.posts(0, world.clear, 0, 1, letters=0)
        world.go()
        call = world.call(0, "0#0", "go", args=(1,))
        self.posts(0, world.do, ("turn", 0))
        self.posts(0, world.do, ("again", 0))
        self.posts(1, world.do, ("take", world.net()[0][0]))
        world.go()
        self.told((world.settled(0, call), world.things(1)), (kept(to("0#0")), ["0#0", "1#0"]))

    def test_what_is_told_of_a_fall_is_posted(self):
        # a call of house 2 that went by way of house 0 to house 1, where it may wait for one that never comes
        world = self.world
        self.share((0, "1#0"))
        world.call(0, "1#0", "get")
        world.offer(0, 2, "0:0")
        self.bring(0, 2)
        world.call(2, "0:0", "get")
        self.bring(2, 0)
        world.do(("fall", 2))
        self.posts(0, world.do, ("lost", 0, 2))
        self.told(world.net()[-1][1:], (0, 1))

    def test_what_falls_bring_is_posted(self):
        for seed in range(30):
            world, draw = World(PLAN), random.Random(seed)
            drawn_ways(world, draw, 40)
            for house in world.up():
                for other in range(3):
                    if other not in world.up():
                        world.do(("lost", house, other))
                        self.told(world.house_at(house).post(), [])


class Ways(Worlds):
    def setUp(self):
        Worlds.setUp(self)
        self.share((0, "1#0"), (1, "0#0"))

    def no_way(self, way):
        self.keeps(self.refused, NoWay, {"asked": way}, self.world.do, way)

    def test_letters_have_numbers(self):
        world = World(PLAN)
        world.make(0, "node")
        world.offer(0, 1, "0#0")
        world.offer(0, 2, "0#0")
        self.told(world.net(), [(0, 0, 1), (1, 0, 2)])
        self.told(world.ways(), [("take", 0), ("take", 1)])
        self.told(world.do(("double", 0)), None)
        self.told(world.net(), [(0, 0, 1), (1, 0, 2), (2, 0, 1)])
        self.told(world.do(("drop", 1)), None)
        self.told(world.net(), [(0, 0, 1), (2, 0, 1)])
        self.told(world.do(("take", 2)), None)
        self.told((world.held(1), world.net()), (["0#0"], [(0, 0, 1), (3, 1, 0)]))
        self.told(world.do(("again", 0)), None)
        self.told(world.net(), [(0, 0, 1), (3, 1, 0), (4, 0, 1), (5, 0, 2)])
        self.told(world.step(9), ("take", 3))
        self.told(world.net(), [(0, 0, 1), (4, 0, 1), (5, 0, 2)])
        self.told(world.step(2), ("take", 5))
        self.told((world.held(2), world.net()), (["0#0"], [(0, 0, 1), (4, 0, 1), (6, 2, 0)]))
        for letter in (1, 2, 3, 5, 7):
            for word in ("take", "drop", "double"):
                self.refused(NoWay, {"asked": (word, letter)}, world.do, (word, letter))

    def test_turns_come_first(self):
        world = self.world
        world.call(1, "1#0", "get")
        world.call(0, "1#0", "get")
        world.call(0, "0#0", "get")
        letter = world.net()[0][0]
        self.told(world.ways(), [("turn", 0), ("turn", 1), ("take", letter)])
        self.told(world.step(5), ("take", letter))
        self.told(world.line(1), ["1:0", "0:0"])
        self.told(world.ways(), [("turn", 0), ("turn", 1), ("take", letter + 1)])
        self.told(world.step(1), ("turn", 1))
        self.told(world.do(("turn", 1)), ("0:0", "1#0", "get", (), kept(), ()))
        self.told(world.do(("turn", 0)), ("0:1", "0#0", "get", (), kept(), ()))
        self.told([(house, row[0]) for house, row in world.acts()], [(1, "1:0"), (1, "0:0"), (0, "0:1")])

    def test_again_may_be_nothing(self):
        self.told(self.world.do(("again", 2)), None)
        self.told(self.world.net(), [])

    def test_a_fall(self):
        world = self.world
        world.call(0, "1#0", "get")
        world.call(1, "0#0", "get")
        world.offer(0, 2, "0#0")
        net = world.net()
        self.told([row[1:] for row in net], [(0, 1), (1, 0), (0, 2)])
        self.told(world.do(("fall", 0)), None)
        self.told((world.up(), world.net()), ([1, 2], [net[0], net[2]]))
        self.told(world.ways(), [("take", net[0][0]), ("take", net[2][0])])
        world.do(("again", 1))
        world.call(1, "0#0", "get")
        self.told(world.net(), [net[0], net[2]])
        # what it posted ahead may still be taken, and what comes of that gets no number where it goes there
        world.do(("take", net[0][0]))
        world.do(("turn", 1))
        world.do(("double", net[2][0]))
        self.told(world.net(), [net[2], (net[2][0] + 1, 0, 2)])
        self.told((world.is_still(), world.go()), (False, 2))
        self.told((world.is_still(), world.net()), (False, []))
        for way in (("fall", 0), ("turn", 0), ("again", 0), ("lost", 0, 1), ("lost", 1, 2), ("lost", 1, 1), ("lost", 2, 3)):
            self.no_way(way)
        self.told(world.do(("lost", 1, 0)), None)
        self.told((world.settled(1, "1:0"), world.is_still()), (("broken", "lost"), True))
        self.told(world.do(("lost", 2, 0)), None)
        self.told((world.is_still(), world.go()), (True, 0))
        ahead = world.house_at(1)
        self.told(world.do(("lost", 1, 0)), None)
        self.told(world.house_at(1).names(), ahead.names())

    def test_what_is_no_way(self):
        things = [("turn",), ("turn", 0), ("turn", 3), ("take", 9), ("turn", 0, 0), ("again",), ("again", 3), ("again", 0, 1),
                  ("fall", 3), ("fall", -1), ("lost", 0), ("lost", 0, 1), ("lost", 0, 1, 2), ("go", 0), ("step", 0), "turn",
                  ["again", 0], ("again", True), ("again", [0]), ("again", None), (["again"], 0), ({}, 0), ((), 0),
                  ("take", (0,)), ("take", {}), ("take", "0"), ("again", "0"), ("make", 0), ("AGAIN", 0), ("again", 10 ** 29)]
        for thing in anything() + things:
            self.no_way(thing)
        self.world.do(("fall", 1))
        for thing in (("lost", 0, True), ("lost", False, 1), ("lost", 0, [1]), ["lost", 0, 1], ("lost", 0, (1,)),
                      ("lost", 1, 0), ("lost", 0, 0), ("lost", 0, 2), ("lost", 0, 3), ("lost", 0, 4), ("lost", 0, -1), ("lost", 4, 1), ("lost", 0, 1, 1),
                      ("lost", 0, None), ("fall", 0, 1), ("again", 1)):
            self.no_way(thing)
        self.told(self.world.do(("lost", 0, 1)), None)

    def test_what_is_told_of_a_refusal_is_the_asker_s_own(self):
        way = ("turn", [1, {"a": [2]}])
        self.refused(NoWay, {"asked": ("turn", [1, {"a": [2]}])}, self.world.do, way)
        self.told(way, ("turn", [1, {"a": [2]}]))

    def test_steps(self):
        self.told(self.world.step(0), None)
        self.told(self.world.step(10 ** 20), None)
        self.world.call(0, "0#0", "get")
        self.world.call(1, "1#0", "get")
        self.told(self.world.step(10 ** 20 + 1), ("turn", 1))
        self.told(self.world.step(10 ** 20 + 1), ("turn", 0))
        self.told(self.world.step(3), None)


class Goes(Worlds):
    def test_counts_turns_and_takes(self):
        self.share((0, "1#0"))
        self.world.call(0, "1#0", "get")
        # the letter with the call, the act, the letter with the answer, and what tells that this was heard
        copy = self.world.copy()
        count = 0
        while self.world.ways():
            self.world.do(self.world.ways()[0])
            count += 1
        self.told((copy.go(), copy.settled(0, "0:0")), (count, kept()))
        self.assertTrue(copy.is_still())
        self.told(copy.net(), [])

    def test_again_where_there_is_no_way(self):
        self.world.offer(0, 1, "0#0")
        self.world.offer(2, 1, "2#0")
        for letter, _, _ in self.world.net():
            self.world.do(("drop", letter))
        self.told((self.world.ways(), self.world.is_still()), ([], False))
        # two letters, and two that tell that they were heard
        self.told(self.world.go(), 4)
        self.told((self.world.held(1), self.world.is_still()), (["0#0", "1#0", "2#0"], True))

    def test_till_nothing_is_told_again(self):
        """By the document's words, with each way and again done by hand."""
        for seed in range(40):
            draw = random.Random(seed)
            world = World(PLAN)
            drawn_ways(world, draw, 25)
            other = world.copy()
            count = 0
            while True:
                if not other.ways():
                    for number in other.up():
                        other.do(("again", number))
                    if not other.ways():
                        break
                other.do(other.ways()[0])
                count += 1
            most = world.copy()
            self.told(world.go(), count)
            self.assertTrue(world == other)
            self.told(most.go(most=count), count)
            self.assertTrue(most == other)

    def test_too_long(self):
        for seed in range(30):
            draw = random.Random(seed)
            world = World(PLAN)
            drawn_ways(world, draw, 25)
            full = world.copy()
            count = full.go()
            for most in {0, count // 2, count - 1}:
                if 0 <= most < count:
                    one, other = world.copy(), world.copy()
                    self.refused(TooLong, {"most": most}, one.go, most=most)
                    for _ in range(most):
                        if not other.ways():
                            for number in other.up():
                                other.do(("again", number))
                        other.do(other.ways()[0])
                    if not other.ways():
                        for number in other.up():
                            other.do(("again", number))
                    self.assertTrue(one == other)
                    self.told(one.go(), count - most)
                    self.assertTrue(one == full)

    def test_nought(self):
        self.told(self.world.go(most=0), 0)
        self.world.offer(0, 1, "0#0")
        self.keeps(self.refused, TooLong, {"most": 0}, self.world.go, most=0)
        self.world.do(("drop", 0))
        self.told(self.world.net(), [])
        # again comes first where ways is empty
        self.refused(TooLong, {"most": 0}, self.world.go, most=0)
        self.told(self.world.net(), [(1, 0, 1)])

    def test_a_plan_that_never_ends(self):
        world = World(RUNNER, many=1)
        world.call(0, world.make(0, "a"), "run")
        self.refused(TooLong, {"most": 30}, world.go, most=30)
        self.told(len(world.acts()), 30)
        self.refused(TooLong, {"most": 1}, world.go, most=1)
        self.told(len(world.acts()), 31)

    def test_what_goes_to_a_fallen_house_never_comes(self):
        self.share((0, "1#0"))
        self.world.do(("fall", 1))
        self.world.call(0, "1#0", "get")
        self.told((self.world.net(), self.world.go(), self.world.is_still()), ([], 0, False))
        self.world.do(("lost", 0, 1))
        self.told((self.world.go(), self.world.is_still()), (0, True))
        self.told(self.world.settled(0, "0:0"), ("broken", "lost"))


class Told(Worlds):
    def test_letters_of_a_fallen_house_are_on_the_net(self):
        self.world.offer(0, 1, "0#0")
        self.world.do(("fall", 0))
        self.assertIs(self.world.is_still(), False)
        self.world.do(("take", 0))
        self.told(self.world.net(), [])
        self.assertIs(self.world.is_still(), True)

    def test_still(self):
        world = self.world
        self.assertIs(world.is_still(), True)
        world.call(0, "0#0", "get")
        self.assertIs(world.is_still(), False)
        world.do(("fall", 0))
        self.assertIs(world.is_still(), True)
        world.offer(1, 2, "1#0")
        self.assertIs(world.is_still(), False)
        world.do(("drop", 0))
        self.assertIs(world.is_still(), False)
        world.do(("again", 1))
        world.do(("take", 1))
        self.told(world.net(), [(2, 2, 1)])
        world.do(("drop", 2))
        # it isn't known to be heard
        self.assertIs(world.is_still(), False)
        world.go()
        self.assertIs(world.is_still(), True)

    def test_an_ask_changes_nothing(self):
        self.share((0, "1#0"))
        self.world.call(0, "1#0", "get")
        self.world.call(0, "0#0", "get")
        for ask in (self.world.is_still, self.world.ways, self.world.net, self.world.up, self.world.outer,
                    self.world.acts, self.world.copy):
            self.keeps(ask)
        for ask in (self.world.things, self.world.names, self.world.held, self.world.line, self.world.house_at):
            self.keeps(ask, 0)

    def test_what_is_told_is_the_asker_s_own(self):
        self.share((0, "1#0"))
        self.world.call(0, "1#0", "put", args=((1, 2),))
        self.world.call(0, "0#0", "get")
        self.world.do(("turn", 0))
        copy = self.world.copy()
        for told in (self.world.ways(), self.world.net(), self.world.up(), self.world.outer(), self.world.acts(),
                     self.world.things(0), self.world.names(0), self.world.held(0), self.world.line(0)):
            told.append("odd")
            told.clear()
        self.world.stands(0, "0#0")[1].clear()
        house = self.world.house_at(0)
        house.make("node")
        house.turn()
        house.post()
        house.lost(1)
        house.view().clear()
        self.assertTrue(self.world == copy)
        self.told([self.world.net(), self.world.ways(), self.world.outer(), self.world.acts(), self.world.stands(0, "0#0")],
                  [copy.net(), copy.ways(), copy.outer(), copy.acts(), copy.stands(0, "0#0")])

    def test_a_copy_of_a_house(self):
        self.share((0, "1#0"))
        house = self.world.house_at(0)
        self.assertIs(type(house), House)
        self.assertTrue(house == self.world.house_at(0))
        self.told((house.names(), house.held(), len(house)), (["0#0", "1#0"], ["0#0", "1#0"], 2))
        self.world.call(0, "1#0", "get")
        self.told(house.names(), ["0#0", "1#0"])

    def test_outer_and_acts_are_a_run(self):
        for seed in range(60):
            draw = random.Random(seed)
            world = World(PLAN, many=1 + seed % 6)
            drawn_ways(world, draw, 60, falls=False)
            world.go()
            rows = [row for _, row in world.acts()]
            self.told(first_odd(PLAN, world.outer(), rows), None)
            if rows:
                self.told(first_odd(PLAN, world.outer(), rows + [rows[-1]]), len(rows))
            self.assertIs(world.is_still(), True)


class Equal(Worlds):
    def worlds(self):
        """Worlds that were told unlike things."""
        told = [
            [], [("make", 0, "node")], [("make", 1, "node")], [("make", 0, "maker")], [("sweep", 0)], [("sweep", 1)],
            [("make", 0, "node"), ("offer", 0, 1, "0#0")], [("make", 0, "node"), ("offer", 0, 2, "0#0")],
            [("make", 0, "node"), ("offer", 0, 1, "0#0"), ("do", ("drop", 0))],
            [("make", 0, "node"), ("offer", 0, 1, "0#0"), ("do", ("double", 0)), ("do", ("drop", 1))],
            [("make", 0, "node"), ("offer", 0, 1, "0#0"), ("do", ("double", 0)), ("do", ("drop", 0))],
            [("make", 0, "node"), ("offer", 0, 1, "0#0"), ("do", ("take", 0))],
            [("do", ("fall", 0))], [("do", ("fall", 1))], [("do", ("fall", 0)), ("do", ("lost", 1, 0))], [("mark", 0, 1)],
            [("make", 0, "node"), ("call", 0, "0#0", "get")],
            [("make", 0, "node"), ("call", 0, "0#0", "get"), ("do", ("turn", 0))],
            [("make", 0, "node"), ("let_go", 0, "0#0")],
        ]
        worlds = []
        for deeds in told:
            world = World(PLAN)
            for word, *things in deeds:
                getattr(world, word)(*things)
            worlds.append(world)
        return worlds + [World(PLAN, many=2), World(PLAN, many=4), World(RUNNER)]

    def test_equal_where_what_is_told_is(self):
        one, other = self.worlds(), self.worlds()
        for at, world in enumerate(one):
            for place, second in enumerate(other):
                with self.subTest((at, place)):
                    self.assertIs(world == second, at == place)
                    self.assertIs(world != second, at != place)

    def test_the_order_of_what_several_houses_did(self):
        worlds = []
        for order in ((0, 1), (1, 0)):
            world = World(PLAN)
            for number in order:
                world.make(number, "node")
            worlds.append(world)
        self.told([worlds[0].house_at(number) == worlds[1].house_at(number) for number in range(3)], [True] * 3)
        self.assertFalse(worlds[0] == worlds[1])
        one, other = worlds[0], worlds[0].copy()
        for world, order in ((one, (0, 1)), (other, (1, 0))):
            world.call(0, "0#0", "get")
            world.call(1, "1#0", "get")
            for number in order:
                world.do(("turn", number))
        self.told([one.house_at(number) == other.house_at(number) for number in range(3)], [True] * 3)
        self.assertFalse(one == other)

    def test_equals_nothing_else(self):
        for thing in anything() + [self.world.house_at(0), self.world.outer(), PLAN]:
            self.assertFalse(self.world == thing)
            self.assertTrue(self.world != thing)

    def test_copies_go_on_for_themselves(self):
        for seed in range(30):
            draw = random.Random(seed)
            world = World(PLAN, many=2 + seed % 3)
            drawn_ways(world, draw, 20)
            copy, third = world.copy(), world.copy()
            self.assertTrue(world == copy)
            drawn_ways(world, random.Random(seed + 7), 15)
            self.assertTrue(copy == third)
            self.assertFalse(world == copy)
            drawn_ways(copy, random.Random(seed + 7), 15)
            self.assertTrue(world == copy)
            self.assertFalse(copy == third)
            self.told(state(world), state(copy))


def state(world):
    """All that a world tells."""
    told = [world.up(), world.net(), world.outer(), world.acts(), world.ways(), world.is_still()]
    for number in world.up():
        told.extend([world.things(number), world.names(number), world.held(number), world.line(number)])
        told.append([world.settled(number, name) for name in world.held(number)])
        told.append([world.stands(number, name) for name in world.things(number)])
        told.append(world.house_at(number).view())
    return told


def drawn_ways(world, draw, many, falls=True):
    """So many drawn deeds and ways."""
    for _ in range(many):
        word, *things = drawn_deed(world, draw, falls)
        getattr(world, word)(*things[:-1], **things[-1])


def drawn_deed(world, draw, falls):
    """A deed that isn't refused: its word, its things, and a dict of those that are handed in by their names."""
    up = world.up()
    house = draw.choice(up)
    held, what = world.held(house), draw.random()
    if what < 0.1 or not held:
        args = tuple(worths(draw, world.house_at(house)) for _ in range(draw.randrange(3)))
        return ("make", house, draw.choice(["node", "maker"]), {"args": args})
    if what < 0.35:
        word, count = draw.choice(WORDS)
        args = tuple(worths(draw, world.house_at(house)) for _ in range(count))
        if word == "go":
            args = (draw.choice(up),)
        return ("call", house, draw.choice(held), word, {"args": args})
    if what < 0.45:
        other = draw.randrange(6)
        return ("offer", house, other if other != house else (house + 1) % 6, draw.choice(held), {})
    if what < 0.5:
        return ("let_go", house, draw.choice(held), {})
    if what < 0.53:
        return ("sweep", house, {})
    if what < 0.56 and falls and len(up) > 1:
        return ("do", ("fall", house), {})
    if what < 0.62 and falls:
        fallen = [number for number in range(6) if world_has(world, number) and number not in up]
        if fallen:
            return ("do", ("lost", house, draw.choice(fallen)), {})
    net = world.net()
    if what < 0.7 and net:
        return ("do", (draw.choice(["drop", "double"]), draw.choice(net)[0]), {})
    if what < 0.74:
        return ("do", ("again", house), {})
    return ("step", draw.randrange(100), {})


def world_has(world, number):
    """Whether a number is that of a house of the world, be it up or not."""
    try:
        world.things(number)
    except NoHouse:
        return False
    except Fallen:
        return True
    return True


class Model:
    """Houses with a net of the test's own, told what a world is told."""

    def __init__(self, plan, many):
        self.houses = [House(plan, number) for number in range(many)]
        for house in self.houses:
            for other in range(many, 6):
                house.lost(other)
        self.fallen = []
        self.letters = {}
        self.count = 0
        self.rows = []

    def put(self, number, letters):
        for house, letter in letters:
            if house not in self.fallen:
                self.letters[self.count] = (number, house, letter)
                self.count += 1

    def deed(self, word, number, *things, **named):
        told = getattr(self.houses[number], word)(*things, **named)
        self.put(number, told if word == "again" else [])
        self.put(number, self.houses[number].post())
        return told

    def do(self, way):
        word, number = way[:2]
        if word in ("take", "drop", "double"):
            sender, house, letter = self.letters[number]
            if word == "double":
                self.put(sender, [(house, letter)])
            else:
                del self.letters[number]
            if word == "take":
                self.deed("take", house, sender, letter)
        elif word == "fall":
            self.fallen.append(number)
            self.letters = {at: row for at, row in self.letters.items() if row[1] != number}
        else:
            told = self.deed(word, number, *way[2:])
            if word == "turn":
                self.rows.append((number, told))

    def net(self):
        return [(at, *self.letters[at][:2]) for at in sorted(self.letters)]

    def ways(self):
        turns = [("turn", number) for number, house in enumerate(self.houses) if number not in self.fallen and house.line()]
        return turns + [("take", at) for at in sorted(self.letters)]


class Drawn(Case):
    def test_worlds_are_houses_and_a_net(self):
        for seed in range(60):
            with self.subTest(seed):
                draw = random.Random(seed)
                many = 1 + seed % 6
                world, model = World(PLAN, many=many), Model(PLAN, many)
                for _ in range(60):
                    word, *things, named = drawn_deed(world, draw, True)
                    told = getattr(world, word)(*things, **named)
                    if word == "step":
                        ways = model.ways()
                        self.told(told, ways[things[0] % len(ways)] if ways else None)
                        model.do(told) if told else None
                    elif word == "do":
                        model.do(*things)
                    else:
                        self.told(told, model.deed(word, *things, **named))
                    self.told((world.net(), world.ways(), world.acts()), (model.net(), model.ways(), model.rows))
                self.same(world, model)

    def same(self, world, model):
        for number in world.up():
            house, other = world.house_at(number), model.houses[number]
            self.told(bare(house.view()), bare(other.view()))
            self.told((world.things(number), world.names(number), world.held(number), world.line(number)),
                      (other.things(), other.names(), other.held(), other.line()))
        still = not model.letters and all(not model.houses[number].line() and not model.houses[number].copy().again()
                                          for number in world.up())
        self.assertIs(world.is_still(), still)


def bare(view):
    """A view without the posts that told nothing: how often they stand there isn't told."""
    return [entry for entry in view if entry != ("post", (), ())]


if __name__ == "__main__":
    unittest.main()
