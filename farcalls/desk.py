"""A desk, which answers rows with texts, point 37."""

from farcalls.deskrows import read_ask
from farcalls.errors import NoAsk, NoWorld
from farcalls.plantexts import joined, read_plan, show_worth
from farcalls.worlds import World
from farcalls.worths import copied

PLAN = "plan\n"
OK = "ok"
NONE = "none"


class Desk:
    """A desk, with the plan and the world that it was told."""

    def __init__(self):
        self._plan = None
        self._world = None

    def say(self, row):
        """The answer to a row."""
        if isinstance(row, str) and row.startswith(PLAN):
            self._plan = read_plan(row.removeprefix(PLAN))
            return OK
        ask = read_ask(row)
        if ask is None:
            raise NoAsk(copied(row))
        word, parts = ask
        if word == "world":
            return self._begin(*parts)
        if self._world is None:
            raise NoWorld()
        answer = ANSWERS[word]
        return answer(self._world, *parts)

    def _begin(self, many):
        """Begins a world of the plan."""
        if self._plan is None:
            raise NoWorld()
        self._world = World(self._plan, many=many)
        return OK


def to_make(world, house, kind, args):
    """The answer to `make`."""
    return world.make(house, kind, args=args)


def to_call(world, house, to, word, args):
    """The answer to `call`."""
    return world.call(house, to, word, args=args)


def to_offer(world, house, other, name):
    """The answer to `offer`."""
    world.offer(house, other, name)
    return OK


def to_free(world, house, name):
    """The answer to `free`."""
    world.let_go(house, name)
    return OK


def to_sweep(world, house):
    """The answer to `sweep`."""
    world.sweep(house)
    return OK


def to_mark(world, house, number):
    """The answer to `mark`."""
    world.mark(house, number)
    return OK


def to_clear(world, house, number):
    """The answer to `clear`."""
    world.clear(house, number)
    return OK


def to_turn(world, house):
    """The answer to `turn`."""
    return show_act(house, world.do(("turn", house)))


def to_way(world, way):
    """The answer to a way that tells nothing."""
    world.do(way)
    return OK


def to_step(world, number):
    """The answer to `step`."""
    way = world.step(number)
    return NONE if way is None else show_parts(way)


def to_go(world):
    """The answer to `go`."""
    return str(world.go())


def to_settled(world, house, name):
    """The answer to `settled`."""
    told = world.settled(house, name)
    return told[0] if len(told) == 1 else show_outcome(told)


def to_things(world, house):
    """The answer to `things`."""
    return or_none(joined(world.things(house)))


def to_names(world, house):
    """The answer to `names`."""
    return or_none(joined(world.names(house)))


def to_held(world, house):
    """The answer to `held`."""
    return or_none(joined(world.held(house)))


def to_stands(world, house, name):
    """The answer to `stands`."""
    kind, fields = world.stands(house, name)
    # a house keeps the fields in the plan's order
    parts = [part for field, worth in fields.items() for part in [field, show_worth(worth)]]
    return joined([kind, *parts])


def to_up(world):
    """The answer to `up`."""
    return or_none(show_parts(world.up()))


def to_net(world):
    """The answer to `net`."""
    return or_none("; ".join([show_parts(row) for row in world.net()]))


def to_acts(world):
    """The answer to `acts`."""
    return or_none("; ".join([show_act(house, row) for house, row in world.acts()]))


def or_none(text):
    """A text, or what stands for none."""
    return text if text else NONE


def show_parts(parts):
    """Words and numbers, parted by blanks."""
    return joined([str(part) for part in parts])


def show_outcome(outcome):
    """The text of an outcome."""
    how, what = outcome
    return joined([how, show_worth(what) if how == "kept" else what])


def show_act(house, row):
    """The text of an act at a house."""
    call, thing, word, args, outcome, says = row
    return joined([str(house), call, thing, word, show_worth(args), show_outcome(outcome), show_worth(says)])


ANSWERS = {
    "make": to_make, "call": to_call, "offer": to_offer, "free": to_free, "sweep": to_sweep, "mark": to_mark,
    "clear": to_clear, "turn": to_turn, "way": to_way, "step": to_step, "go": to_go, "settled": to_settled,
    "things": to_things, "names": to_names, "held": to_held, "stands": to_stands, "up": to_up, "net": to_net,
    "acts": to_acts,
}
