"""Drawn but fixed histories of several houses, held against the plain rule: point 4, and all that it draws on."""

import random
import unittest

from farcalls.houses import House
from farcalls.judged import first_odd
from farcalls.near import Near
from farcalls.plans import fields_of
from helpers import Case
from test_near import PLAN as NEAR
from web import LOST, PLAN, WORDS, Run, Web, drawn, holds_in, is_thing, worths


def puts_of(web, run):
    """Of each house the calls that were put there, in order, as (to, call)."""
    puts = {}
    for number, house in enumerate(web.houses):
        puts[number] = []
        for word, things, told in house.view():
            if word == "call":
                puts[number].append((things[0], told))
            elif word == "turn" and told is not None:
                puts[number].extend((to, call) for _, to, call in run.puts.get(told[0], []))
    return puts


class Drawn(Case):
    def in_order(self, web, run, lost=()):
        """Of two calls on one name put at one house the first acted first."""
        acted = {row[0]: at for at, row in enumerate(web.rows())}
        for puts in puts_of(web, run).values():
            last = {}
            for to, call in puts:
                if call in acted and call not in lost:
                    self.assertLess(last.get(to, -1), acted[call])
                    last[to] = acted[call]

    def alike(self, web, run):
        """What is told is what the run came to."""
        self.told([call for call in run.open_calls() if run.can_act(call)], [])
        for number in web.up:
            for name in web[number].held():
                want = ("thing",) if "#" in name else run.settled(name) or ("open",)
                self.told(web[number].settled(name), want)
            for name in web[number].things():
                self.told(web[number].stands(name), run.things[name])

    def goes_well(self, seed, many, deeds, fair=False):
        draw = random.Random(seed)
        web = Web(PLAN, many)
        drawn(web, draw, deeds, fair=fair)
        web.settle(draw)
        self.told(first_odd(PLAN, web.outer, web.rows()), None)
        run = Run(web)
        self.alike(web, run)
        self.in_order(web, run)
        web.sweeps(draw)
        self.kept(web, run)
        web.round(1, draw)
        reached = self.kept(web, run)
        for number in web.up:
            self.assertLessEqual(set(web[number].names()), reached)
        self.answers(web, draw, run)
        web.let_all_go()
        web.sweeps(draw)
        web.round(2, draw)
        self.told(web.all_names(), {number: [] for number in web.up})
        return web

    def kept(self, web, run):
        """All that is held is kept; tells it."""
        stands = {name: number for number in web.up for name in web[number].things()}
        reached = run.held([name for number in web.up for name in web[number].held()])
        self.assertLessEqual(reached, {name for names in web.all_names().values() for name in names})
        for name in reached:
            if "#" in name:
                self.told(web[stands[name]].stands(name), run.things[name])
                self.assertIn(name, web[stands[name]].names())
        for number in web.up:
            self.assertLessEqual(set(web[number].held()), set(web[number].names()))
        return reached

    def answers(self, web, draw, run):
        """Whatever is held answers, though it doesn't know the word."""
        for number in web.up:
            for name in web[number].held():
                call = web.call(number, name, "zzz")
                web.settle(draw)
                came = run.settled(name) if "#" not in name else ("kept", ("to", name))
                if came is None:
                    self.told(web[number].settled(call), ("open",))
                else:
                    self.told(web[number].settled(call), came if came[0] == "broken" else ("broken", "odd"))
                web[number].let_go(call)

    def test_far_is_near(self):
        acts = 0
        for seed in range(90):
            with self.subTest(seed):
                acts += len(self.goes_well(seed, 1 + seed % 6, 30).acts)
        self.assertGreater(acts, 1000)

    def test_long_histories(self):
        for seed in range(8):
            with self.subTest(seed):
                self.goes_well(seed, 2 + seed % 4, 120)

    def test_letters_that_are_never_lost(self):
        for seed in range(20):
            with self.subTest(seed):
                self.goes_well(1000 + seed, 2 + seed % 5, 40, fair=True)

    def test_copies_go_on_alike(self):
        for seed in range(16):
            webs = []
            for kind in (Web, Copies):
                draw = random.Random(seed)
                web = kind(PLAN, 2 + seed % 4)
                drawn(web, draw, 20, often=0.02)
                drawn_more(web, draw)
                webs.append(web)
            self.told(webs[0].acts, webs[1].acts)
            self.assertEqual(webs[0].net, webs[1].net)
            self.assertTrue(all(one == other for one, other in zip(webs[0].houses, webs[1].houses)))
            self.told([house.view() for house in webs[0].houses], [house.view() for house in webs[1].houses])
            self.told(webs[0].all_names(), webs[1].all_names())

    def test_a_house_alone_goes_as_a_near_run(self):
        for seed in range(40):
            with self.subTest(seed):
                alone(self, random.Random(seed), PLAN, WORDS)
                alone(self, random.Random(seed), NEAR, [(method[0], len(method[1])) for kind in NEAR for method in kind[2]])


class Copies(Web):
    """A web in which a house is another one behind each deed: its copy, while it is told something else itself."""

    def post(self, number, *, again=False):
        super().post(number, again=again)
        elder = self.houses[number]
        self.houses[number] = elder.copy()
        text = self.houses[number].view()
        for house in range(6):
            if house != number:
                elder.lost(house)
        for name in elder.held()[:3]:
            elder.call(name, "put", args=(1,))
            elder.let_go(name)
        elder.turn()
        elder.mark(10 ** 9)
        elder.clear(10 ** 9)
        elder.sweep()
        assert self.houses[number].view() == text


def drawn_more(web, draw):
    """Goes on with what is held, and rounds."""
    for _ in range(15):
        number = draw.choice(web.up)
        held = web[number].held()
        if held:
            word, count = draw.choice(WORDS)
            web.call(number, draw.choice(held), word, *[worths(draw, web[number]) for _ in range(count)])
        for _ in range(4):
            web.step(draw, fair=False)
    web.tell_all()
    web.settle(draw)
    web.round(1, draw)


def alone(case, draw, plan, words):
    """Tells a house and a near run the same."""
    house, near = House(plan, 0), Near(plan)
    for other in range(1, 6):
        house.lost(other)
    for _ in range(60):
        held = house.held()
        what = draw.random()
        if what < 0.1 or not held:
            args = tuple(worths(draw, house) for _ in range(draw.randrange(3)))
            kind = draw.choice(plan)[0]
            args = args[:len(fields_of(plan, kind))]
            case.told(house.make(kind, args=args), near.make(kind, args=args))
        elif what < 0.6:
            word, count = draw.choice(words)
            args = tuple(worths(draw, house) for _ in range(count))
            name = draw.choice(held)
            case.told(house.call(name, word, args=args), near.call(name, word, args=args))
        else:
            case.told(house.turn(), near.turn())
        case.told(house.line(), near.line())
        case.told(house.things(), near.things())
        case.told([house.stands(name) for name in house.things()], [near.stands(name) for name in near.things()])
        for name in house.held():
            if "#" not in name:
                case.told(house.settled(name), near.settled(name))
        case.told(house.post() + house.again(), [])


class Falls(Case):
    def goes_well(self, seed, many, deeds, often):
        draw = random.Random(seed)
        web = Web(PLAN, many)
        drawn(web, draw, deeds, often=often)
        web.settle(draw)
        web.tell_all()
        web.settle(draw)
        run = Run(web)
        self.judged(web, run)
        fallen = set()
        for number in range(many):
            if number not in web.up:
                fallen |= web.known[number]
        for call in web.lost_calls:
            self.assertTrue(may_be_lost(run, call, fallen), call)
        for number in web.up:
            for name in web[number].held():
                if "#" not in name and web[number].settled(name) == ("open",):
                    self.assertTrue(is_ring(run, name, web.lost_calls), name)
        if seed % 2:
            web.round(1, draw)
            reached = run.held([name for number in web.up for name in web[number].held()])
            for number in web.up:
                self.assertLessEqual(set(web[number].names()), reached)
        else:
            web.sweeps(draw)
        self.kept(web, run, fallen)
        web.let_all_go()
        web.sweeps(draw)
        web.round(2, draw)
        self.told(web.all_names(), {number: [] for number in web.up})
        return web

    def judged(self, web, run):
        """The acts are a run, where those calls may be lost of which no living outside tells what became."""
        told = set()
        for number in web.up:
            house = web[number]
            told.update(name for name in house.held() if "#" not in name and house.settled(name)[-1] != "lost"
                        and house.settled(name) != ("open",))
        # one house may know a call as lost, and another one what it came to
        known = {run.waits[row[0]][1] for row in web.rows() if row[3][:2] == (0, "lost") and row[0] in run.waits}
        lost = tuple(sorted((set(run.to) | set(run.waits)) - told | known))
        self.told(first_odd(PLAN, web.outer, web.rows(), lost=lost), None)

    def kept(self, web, run, fallen):
        """What never came to a fallen house is kept."""
        stands = {}
        for number in web.up:
            for name in web[number].things():
                self.assertNotIn(name, stands)
                stands[name] = number
            self.assertLessEqual(set(web[number].held()), set(web[number].names()))
        reached = set(web.lost_calls)
        due = [name for number in web.up for name in web[number].held() if name not in fallen]
        while due:
            name = due.pop()
            if name not in reached:
                reached.add(name)
                if "#" in name:
                    self.told(web[stands[name]].stands(name), run.things[name])
                due.extend(other for other in run.holds(name) if other not in fallen)

    def test_falls(self):
        fell = lost = 0
        for seed in range(150):
            with self.subTest(seed):
                web = self.goes_well(seed, 2 + seed % 5, 30, 0.04)
                fell += len(web.houses) - len(web.up)
                lost += len(web.lost_calls)
        self.assertGreater(fell, 100)
        self.assertGreater(lost, 200)

    def test_falls_in_long_histories(self):
        for seed in range(10):
            with self.subTest(seed):
                self.goes_well(seed, 5, 90, 0.01)


def may_be_lost(run, call, fallen):
    """Whether a name came to a fallen house by which the call may be lost."""
    due, seen = [call], set()
    while due:
        name = due.pop()
        if name in fallen:
            return True
        if name not in seen and "#" not in name:
            seen.add(name)
            due.extend([run.to[name]] if name in run.to else [run.thing[name]])
            if name in run.outcome:
                due.extend(holds_in(run.outcome[name][1]))
            came = run.settled(name)
            due.extend([came[1][1]] if came and is_thing(came[1]) else [])
    return False


def is_ring(run, call, lost):
    """Whether a promise waits, or hangs, on itself, or on one that does."""
    seen = set()
    while call not in seen:
        seen.add(call)
        if call in run.outcome:
            worth = run.outcome[call][1]
            if not holds_in(worth) or "#" in worth[1]:
                return False
            call = worth[1]
        elif call in run.to and "#" not in run.to[call]:
            call = run.to[call]
        else:
            return False
    return True


if __name__ == "__main__":
    unittest.main()
