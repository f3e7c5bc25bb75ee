"""Webs of houses for the tests: letters that may be late, twice or lost, and drawn but fixed histories."""

import random

from farcalls.acting import act
from farcalls.houses import House
from farcalls.plans import filled

LOST = ("broken", "lost")


def x(name):
    return ("var", name)


A, B, ME = x("a"), x("b"), ("me",)
TWO = ("own", "two")
MOVES = tuple(("if", ("same", A, ("is", house)), (("move", house),), ()) for house in range(6))
# things that keep two worths, hand on, ask, wait and wander; and makers of such
PLAN = (
    ("node", (("one", None), ("two", None)), (
        ("get", (), (("give", ("own", "one")),)),
        ("put", ("a",), (("set", "one", A),)),
        ("self", (), (("give", ME),)),
        ("go", ("a",), MOVES + (("give", ME),)),
        ("ask", ("a",), (("call", "v", A, "get", ()), ("set", "two", x("v")), ("give", x("v")))),
        ("tell", ("a", "b"), (("call", "v", A, "put", (B,)), ("call", "w", A, "get", ()),
                              ("call", "u", A, "go", (("is", 1),)), ("set", "two", x("u")), ("give", x("w")))),
        ("watch", ("a",), (("when", A, "seen", ()), ("give", TWO))),
        ("seen", ("a", "b"), (("say", ("row", A, B)), ("set", "two", B), ("give", B))),
    )),
    ("maker", (("one", None), ("two", None)), (
        ("get", (), (("give", ("own", "two")),)),
        ("put", ("a",), (("make", "v", "node", (A,)), ("set", "two", x("v")), ("give", x("v")))),
        ("self", (), (("call", "v", ME, "mine", ()), ("set", "two", x("v")), ("give", ME))),
        ("go", ("a",), MOVES + (("call", "v", ("own", "one"), "mine", ()), ("give", ME))),
        ("ask", ("a",), (("call", "v", A, "self", ()), ("call", "w", x("v"), "get", ()),
                         ("call", "u", x("w"), "self", ()), ("set", "one", x("w")), ("give", x("u")))),
        ("mine", (), (("give", TWO),)),
        ("fail", (), (("fail", "sad"),)),
    )),
)
WORDS = (("get", 0), ("put", 1), ("self", 0), ("go", 1), ("go", 1), ("ask", 1), ("tell", 2), ("watch", 1), ("mine", 0),
         ("fail", 0))


class Web:
    """Houses from 0 up, and the letters between them; of each deed it is looked at where its letters go."""

    def __init__(self, plan, many):
        self.plan = plan
        self.houses = [House(plan, number) for number in range(many)]
        self.up = list(range(many))
        self.net = []
        self.outer = []
        self.acts = []
        self.told = {number: [] for number in range(many)}
        # the names that ever came to a house, also by letters that may never be taken; the houses to which it may write
        self.known = {number: set() for number in range(many)}
        self.near = {number: set() for number in range(many)}
        # the calls that were known as lost by an outside
        self.lost_calls = set()
        for house in self.houses:
            for other in range(many, 6):
                house.lost(other)

    def __getitem__(self, number):
        return self.houses[number]

    def post(self, number, *, again=False):
        """Has a house post; its letters go on the net."""
        house = self.houses[number]
        self.known[number].update(house.names())
        self.near[number].update(int(name[0]) for name in house.names())
        self.lost_calls.update(name for name in house.held() if house.settled(name) == LOST)
        for to, letter in house.again() if again else house.post():
            assert is_plain(letter), letter
            assert to in self.near[number], f"{number} may not write to {to}"
            assert to != number and to not in self.told[number]
            self.known[to].update(names_in(letter))
            if to in self.up:
                self.net.append((number, to, letter))

    def make(self, number, kind, *args):
        name = self.houses[number].make(kind, args=args)
        self.outer.append(("make", name, kind, args))
        self.post(number)
        return name

    def call(self, number, to, word, *args):
        name = self.houses[number].call(to, word, args=args)
        self.outer.append(("call", name, to, word, args))
        self.post(number)
        return name

    def offer(self, number, other, name):
        self.houses[number].offer(other, name)
        self.near[number].add(other)
        self.post(number)

    def turn(self, number):
        house = self.houses[number]
        things = {name: house.stands(name) for name in house.things()}
        row = house.turn()
        if row is not None:
            self.acts.append((number, row))
            call, thing, word, args, _, _ = row
            kind, fields = things[thing]
            goes = act(self.plan, kind, fields, call, me=thing, word=word, args=args)[5]
            self.near[number].update([] if goes is None else [goes])
        self.post(number)
        return row

    def take(self, at, *, keep=False):
        """Has a letter taken, which may stay on the net."""
        sender, to, letter = self.net[at] if keep else self.net.pop(at)
        self.houses[to].take(sender, letter)
        self.near[to].add(sender)
        self.post(to)

    def taken(self, sender, to):
        """Has all letters on the way from one house to another one taken, in order."""
        letters = [row for row in self.net if row[:2] == (sender, to)]
        self.net = [row for row in self.net if row[:2] != (sender, to)]
        for row in letters:
            self.net.append(row)
            self.take(len(self.net) - 1)

    def fall(self, number):
        self.up.remove(number)
        self.net = [row for row in self.net if row[1] != number]

    def lost(self, number, other):
        self.houses[number].lost(other)
        self.told[number].append(other)
        self.post(number)

    def tell_all(self):
        """Has each living house told of each fallen one."""
        for number in self.up:
            for other in range(len(self.houses)):
                if other not in self.up and other not in self.told[number]:
                    self.lost(number, other)

    def step(self, draw, *, fair=True):
        """One turn or letter; tells whether there was one."""
        turns = [number for number in self.up if self.houses[number].line()]
        if not turns and not self.net:
            return False
        if turns and (not self.net or draw.random() < 0.4):
            self.turn(draw.choice(turns))
            return True
        at = draw.randrange(len(self.net))
        what = draw.random()
        if fair or what < 0.6:
            self.take(at)
        elif what < 0.8:
            self.take(at, keep=True)
        else:
            self.net.pop(at)
        return True

    def settle(self, draw=None, most=20000):
        """Turns and letters till all is still."""
        draw = draw or random.Random(0)
        for _ in range(most):
            if not self.step(draw):
                for number in self.up:
                    self.post(number, again=True)
                if not self.net and not any(self.houses[number].line() for number in self.up):
                    return
        raise AssertionError("never still")

    def rows(self):
        """The rows of all acts, in order."""
        return [row for _, row in self.acts]

    def all_names(self):
        """The names of each living house."""
        return {number: self.houses[number].names() for number in self.up}

    def sweeps(self, draw=None):
        """Sweeps and letters till neither changes anything."""
        for _ in range(200):
            ahead = self.all_names()
            for number in self.up:
                self.houses[number].sweep()
                self.post(number)
            letters = len(self.net)
            self.settle(draw)
            if not letters and ahead == self.all_names():
                return
        raise AssertionError("sweeps go on")

    def round(self, number, draw=None):
        """A round of mark and clear, and the sweeps behind it."""
        for house in self.up:
            self.houses[house].mark(number)
            self.post(house)
            if draw is not None:
                for _ in range(draw.randrange(3)):
                    self.step(draw)
        self.settle(draw)
        for house in self.up:
            self.houses[house].clear(number)
            self.post(house)
        self.sweeps(draw)

    def let_all_go(self):
        for number in self.up:
            for name in self.houses[number].held():
                self.houses[number].let_go(name)
                self.post(number)


def is_plain(thing):
    """Whether only None, truths, whole numbers, texts and tuples stand in it."""
    if type(thing) is tuple:
        return all(is_plain(part) for part in thing)
    return thing is None or type(thing) in (bool, int, str)


def names_in(thing):
    """All texts in a letter that are like names."""
    if isinstance(thing, tuple):
        return [name for part in thing for name in names_in(part)]
    return [thing] if isinstance(thing, str) and ("#" in thing or ":" in thing) else []


def worths(draw, house):
    """Something that the outside of a house can hand in."""
    held = house.held()
    kind = draw.randrange(6)
    if kind < 4 and held:
        return ("to", draw.choice(held))
    if kind == 4 and held:
        return (("to", draw.choice(held)), 1)
    return draw.choice([None, 0, 5, "w", ()])


def falls(web, draw, often):
    """A house may fall, and one may be told of a fallen one."""
    if len(web.up) > 1 and draw.random() < often:
        web.fall(draw.choice(web.up))
    if draw.random() < 0.3:
        number = draw.choice(web.up)
        others = [other for other in range(len(web.houses)) if other not in web.up and other not in web.told[number]]
        if others:
            web.lost(number, draw.choice(others))


def drawn(web, draw, many, *, fair=False, often=0.0):
    """So many drawn deeds of the outsides, with turns, letters and falls between them; some things are known to all."""
    hot = [web.make(0, "node"), web.make(0, "maker")]
    for other in range(1, len(web.houses)):
        for name in hot:
            if draw.random() < 0.8:
                web.offer(0, other, name)
    for _ in range(draw.randrange(30)):
        web.step(draw)
    for _ in range(many):
        deed(web, draw, hot)
        for _ in range(draw.randrange(4)):
            web.step(draw, fair=fair)
        if often:
            falls(web, draw, often)


def deed(web, draw, hot):
    """A drawn deed of the outside of a house."""
    number = draw.choice(web.up)
    house = web[number]
    held = house.held()
    what = draw.random()
    if what < 0.08 or not held:
        web.make(number, draw.choice(["node", "node", "maker"]), *[worths(draw, house) for _ in range(draw.randrange(2))])
    elif what < 0.7:
        near = [name for name in hot if name in held]
        name = draw.choice(near if near and draw.random() < 0.5 else held)
        word, count = draw.choice(WORDS)
        args = [draw.randrange(len(web.houses))] if word == "go" else [worths(draw, house) for _ in range(count)]
        web.call(number, name, word, *args)
    elif what < 0.8:
        others = [other for other in range(len(web.houses)) if other != number]
        if others:
            web.offer(number, draw.choice(others), draw.choice(held))
    elif what < 0.9:
        house.let_go(draw.choice(held))
    elif what < 0.95:
        house.sweep()
        web.post(number)
    else:
        web.post(number, again=True)


class Run:
    """What a run came to, by the plain rule alone: of a plan, the outside's deeds and the acts in order."""

    def __init__(self, web):
        self.things = {}
        self.to, self.outcome, self.waits, self.thing, self.args = {}, {}, {}, {}, {}
        self.puts = {}
        self.stand = {}
        for deed in web.outer:
            if deed[0] == "make":
                self.things[deed[1]] = (deed[2], filled(web.plan, deed[2], deed[3]))
                self.stand[deed[1]] = int(deed[1][0])
            else:
                self.to[deed[1]] = deed[2]
                self.args[deed[1]] = deed[4]
        for house, row in web.acts:
            self.act(web, house, row)

    def act(self, web, house, row):
        call, thing, word, args, outcome, _ = row
        kind, fields = self.things[thing]
        done = act(web.plan, kind, fields, call, me=thing, word=word, args=args)
        assert call not in self.outcome, f"{call} acted twice"
        self.outcome[call] = outcome
        self.things[thing] = (kind, done[1])
        self.stand[thing] = house if done[5] is None or done[5] not in web.up else done[5]
        self.puts[call] = []
        for name, made, worth in done[3]:
            self.things[name] = (made, worth)
            self.stand[name] = house
        for name, to, word, own, waits in done[4]:
            self.args[name] = own
            if waits:
                self.waits[name] = to
                self.thing[name] = thing
            else:
                self.to[name] = to
                self.puts[call].append((house, to, name))

    def settled(self, call):
        """What a promise came to, None where it is open."""
        waits, seen = [], set()
        while call not in seen:
            seen.add(call)
            if call in self.outcome:
                outcome = self.outcome[call]
                if outcome[0] != "kept" or not is_promise(outcome[1]):
                    for waited in reversed(waits):
                        if waited and outcome[0] == "kept":
                            if is_thing(outcome[1]):
                                return None
                            outcome = ("broken", "odd")
                    return outcome
                waits.append(False)
                call = outcome[1][1]
            elif call in self.to and "#" not in self.to[call]:
                waits.append(True)
                call = self.to[call]
            else:
                return None
        return None

    def can_act(self, call):
        """Whether a call that hasn't acted has a thing to act on."""
        if call in self.waits:
            worth = self.waits[call]
            return not is_promise(worth) or self.settled(worth[1]) is not None
        to = self.to[call]
        if "#" in to:
            return True
        outcome = self.settled(to)
        return outcome is not None and outcome[0] == "kept" and is_thing(outcome[1])

    def open_calls(self):
        """The calls and whens that haven't acted and aren't settled."""
        calls = list(self.to) + list(self.waits)
        return [call for call in calls if call not in self.outcome and self.settled(call) is None]

    def held(self, names):
        """All that these names hold, at once or in turn, as point 23 tells."""
        reached, due = set(), list(names)
        while due:
            name = due.pop()
            if name not in reached:
                reached.add(name)
                due.extend(self.holds(name))
        return reached

    def holds(self, name):
        if "#" in name:
            return [part for worth in self.things[name][1].values() for part in holds_in(worth)]
        outcome = self.settled(name)
        if outcome is not None:
            return holds_in(outcome[1])
        names = [self.to[name]] if name in self.to else [self.thing[name]]
        if name in self.to and "#" not in self.to[name]:
            became = self.settled(self.to[name])
            names.extend(holds_in(became[1]) if became else [])
        if name in self.outcome:
            names.extend(holds_in(self.outcome[name][1]))
        else:
            names.extend(part for worth in self.args[name] for part in holds_in(worth))
        for other, to in self.to.items():
            if to == name and other not in self.outcome and self.settled(other) is None:
                names.append(other)
        for other, worth in self.waits.items():
            if worth == ("to", name) and other not in self.outcome:
                names.append(other)
        return names


def is_hold(worth):
    return isinstance(worth, tuple) and len(worth) == 2 and worth[0] == "to" and isinstance(worth[1], str)


def is_thing(worth):
    return is_hold(worth) and "#" in worth[1]


def is_promise(worth):
    return is_hold(worth) and "#" not in worth[1]


def holds_in(worth):
    if is_hold(worth):
        return [worth[1]]
    return [name for part in worth for name in holds_in(part)] if isinstance(worth, tuple) else []
