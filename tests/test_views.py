"""Copies, texts, equality and views of houses: points 29 and 30."""

import unittest

from farcalls.houses import House
from helpers import Case, anything
from test_houses import Far, kept, to
from web import PLAN

SMALL = (("a", (), ()),)


class Views(Far):
    def test_every_deed(self):
        house = House(PLAN, 0)
        self.told(house.view(), [])
        house.lost(5)
        house.make("node")
        house.make("node", args=(to("0#0"),))
        house.call("0#1", "get")
        house.call("0#0", "put", args=((1, ()),))
        house.offer(1, "0:0")
        house.turn()
        house.let_go("0#1")
        house.turn()
        house.turn()
        letters = house.post()
        house.post()
        again = house.again()
        house.take(1, ("rows", 0, (), 1))
        house.lost(5)
        house.take(5, ("odd",))
        house.sweep()
        house.mark(2)
        house.clear(2)
        self.told(letters, again)
        self.told(house.view(), [
            ("lost", (5,), None), ("make", ("node", ()), "0#0"), ("make", ("node", (to("0#0"),)), "0#1"),
            ("call", ("0#1", "get", ()), "0:0"), ("call", ("0#0", "put", ((1, ()),)), "0:1"), ("offer", (1, "0:0"), None),
            ("turn", (), ("0:0", "0#1", "get", (), kept(to("0#0")), ())), ("let_go", ("0#1",), None),
            ("turn", (), ("0:1", "0#0", "put", ((1, ()),), kept(), ())), ("turn", (), None),
            ("post", (), tuple(letters)), ("post", (), ()), ("again", (), tuple(letters)),
            ("take", (1, ("rows", 0, (), 1)), None), ("lost", (5,), None), ("take", (5, ("odd",)), None),
            ("sweep", (), None), ("mark", (2,), None), ("clear", (2,), None)])

    def test_asks_and_refused_deeds_are_no_deeds(self):
        house = House(PLAN, 0)
        house.make("node")
        for do in (lambda: house.make("zz"), lambda: house.call("0#1", "get"), lambda: house.offer(0, "0#0"),
                   lambda: house.let_go("0#1"), lambda: house.take(0, ()), lambda: house.take(1, ("x",)),
                   lambda: house.lost(6), lambda: house.mark(0), lambda: house.clear(1)):
            with self.assertRaises((KeyError, IndexError, ValueError, RuntimeError)):
                do()
        house.settled("0#0")
        house.stands("0#0")
        for ask in (house.things, house.line, house.held, house.names, house.view, house.copy):
            ask()
        self.told((str(house) == str(house), len(house)), (True, 1))
        self.told(house.view(), [("make", ("node", ()), "0#0")])

    def test_a_view_is_the_asker_s_own(self):
        house = House(PLAN, 0)
        house.make("node")
        house.view().clear()
        house.post().append(1)
        self.told(house.view(), [("make", ("node", ()), "0#0"), ("post", (), ())])


class Equal(Far):
    def houses(self):
        """Houses that were told unlike things."""
        told = [lambda house: None, lambda house: house.make("node"), lambda house: house.make("maker"),
                lambda house: house.make("node", args=(None,)), lambda house: house.make("node", args=(0,)),
                lambda house: house.turn(), lambda house: house.post(), lambda house: house.again(),
                lambda house: house.lost(1), lambda house: house.lost(2), lambda house: house.sweep(),
                lambda house: house.mark(1), lambda house: house.mark(11),
                lambda house: (house.make("node", args=((1, 1),))), lambda house: (house.make("node", args=((11,),))),
                lambda house: (house.make("node", args=("w",))), lambda house: (house.make("node", args=(("w",),))),
                lambda house: (house.post(), house.again()), lambda house: (house.again(), house.post()),
                lambda house: house.take(1, ("rows", 0, (), 0)), lambda house: house.take(2, ("rows", 0, (), 0)),
                lambda house: (house.make("node"), house.let_go("0#0")),
                lambda house: (house.make("node"), house.call("0#0", "get")),
                lambda house: (house.make("node"), house.call("0#0", "get"), house.turn()),
                lambda house: (house.make("node"), house.offer(1, "0#0")),
                lambda house: (house.lost(1), house.take(1, (True,))), lambda house: (house.lost(1), house.take(1, (1,))),
                lambda house: (house.lost(1), house.take(1, ("1",))), lambda house: (house.lost(1), house.take(1, ("<>",))),
                lambda house: (house.lost(1), house.take(1, ((),)))]
        houses = []
        for do in told:
            house = House(PLAN, 0)
            do(house)
            houses.append(house)
        return houses + [House(SMALL, 0), House((("a", (("f", 1),), ()),), 0), House(SMALL, 3)]

    def test_equal_where_plans_numbers_and_views_are(self):
        one, other = self.houses(), self.houses()
        for at, house in enumerate(one):
            for place, second in enumerate(other):
                with self.subTest((at, place)):
                    if (at, place) in ((25, 26), (26, 25)):
                        continue
                    self.assertEqual(house == second, at == place)
                    self.assertEqual(house != second, at != place)
                    self.assertEqual(str(house) == str(second), at == place)

    def test_texts(self):
        for house in self.houses():
            self.assertIs(type(str(house)), str)
            self.assertNotEqual(str(house), "")
            self.assertTrue(all(sign == "\n" or " " <= sign <= "~" for sign in str(house)))

    def test_equals_nothing_else(self):
        house = House(PLAN, 0)
        for thing in anything() + [str(house), house.view(), PLAN]:
            self.assertFalse(house == thing)
            self.assertTrue(house != thing)

    def test_asks_change_nothing(self):
        one, other = House(PLAN, 0), House(PLAN, 0)
        for house in (one, other):
            house.call(house.make("node"), "get")
        for ask in (one.things, one.line, one.held, one.names, one.view, one.copy):
            ask()
        one.settled("0:0")
        self.assertTrue(one == other)
        self.told(str(one), str(other))


class Copies(Far):
    def test_a_copy_goes_on_for_itself(self):
        web = self.web
        self.share((0, "1#0"), (1, "0#0"))
        web.call(0, "1#0", "ask", to("0#0"))
        house = web[0]
        copies = [house.copy(), house.copy()]
        view, text = house.view(), str(house)
        for copy in copies:
            self.assertTrue(copy == house)
            self.told((str(copy), copy.view()), (text, view))
            self.told((copy.names(), copy.held(), copy.things(), copy.line()),
                      (house.names(), house.held(), house.things(), house.line()))
        for other in copies:
            web.houses[0] = other
            net = list(web.net)
            far = web.houses[1]
            web.houses[1] = far.copy()
            other.make("node")
            other.call("0#0", "put", args=(5,))
            other.call("0#0", "go", args=(1,))
            web.settle()
            other.sweep()
            other.mark(4)
            other.let_go("0#0")
            other.lost(1)
            other.clear(4)
            web.houses[1] = far
            web.net = net
        self.assertTrue(copies[0] == copies[1])
        self.told((str(house), house.view()), (text, view))
        self.told(house.things(), ["0#0"])
        self.assertFalse(house == copies[0])
        web.houses[0] = house
        web.settle()
        self.told(house.settled("0:0"), kept())

    def test_a_copy_of_a_round(self):
        house = House(PLAN, 0)
        house.mark(3)
        copy = house.copy()
        copy.clear(3)
        house.clear(3)
        self.assertTrue(house == copy)

    def test_a_copy_leaves_the_fields(self):
        house = House(PLAN, 0)
        node = house.make("node")
        copy = house.copy()
        copy.call(node, "put", args=(3,))
        copy.turn()
        self.told(house.stands(node)[1]["one"], None)
        self.told(copy.stands(node)[1]["one"], 3)


if __name__ == "__main__":
    unittest.main()
