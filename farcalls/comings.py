"""What a house does by itself: acts, moves, what other houses tell, and what their falls bring, points 13 to 22."""

from farcalls.acting import act
from farcalls.entries import Asking, Promise
from farcalls.goings import LOST, come_to, do_all, forward, free, hold, put_call, put_when, unlike
from farcalls.keepings import mark_all
from farcalls.plans import filled
from farcalls.worths import holds_in


def make_thing(inside, name, kind, fields):
    """Has a new thing stand here."""
    inside.know(name).been = True
    inside.here[name] = (kind, fields)


def make_outside(inside, kind, args):
    """Makes a thing from outside, and tells its name."""
    name = f"{inside.number}#{inside.made}"
    inside.made += 1
    make_thing(inside, name, kind, filled(inside.plan, kind, args))
    inside.outside[name] = True
    return name


def call_outside(inside, to, word, args):
    """Puts a call from outside, and tells its name."""
    name = f"{inside.number}:{inside.called}"
    inside.called += 1
    inside.outside[name] = True
    put_call(inside, name, to, word, args)
    return name


def act_first(inside):
    """Does the first call of the line, and tells its row."""
    call = inside.queue.pop(0)
    asking = inside.calls.pop(call)
    thing, word, args = asking.to, asking.word, asking.worths
    kind, fields = inside.here[thing]
    outcome, fields, says, makes, puts, goes = act(inside.plan, kind, fields, call, me=thing, word=word, args=args)
    inside.here[thing] = (kind, fields)
    for name, made, worths in makes:
        make_thing(inside, name, made, worths)
    for name, to, asked, own, waits in puts:
        if waits:
            put_when(inside, name, to, thing, asked, own)
        else:
            put_call(inside, name, to, asked, own)
    come_to(inside, call, outcome)
    if goes is not None and goes != inside.number and goes not in inside.gone:
        move(inside, thing, goes)
    return (call, thing, word, args, outcome, says)


def move(inside, thing, house):
    """Lets a thing go to another house, and behind it its calls in the line."""
    kind, fields = inside.here.pop(thing)
    entry = inside.entries[thing]
    table = tuple(sorted(list(entry.table.items())))
    told = tuple(list(fields.items()))
    inside.send(house, ("thing", thing, kind, told, table), unlike(holds_in(tuple(list(fields.values())))))
    inside.part(thing, house)
    calls = [call for call in inside.queue if inside.calls[call].to == thing]
    inside.queue = [call for call in inside.queue if inside.calls[call].to != thing]
    late = entry.late
    entry.late = []
    inside.later([("target", call, None) for call in calls + late])
    do_all(inside)


def take_rows(inside, house, rows):
    """Does what the rows of a letter of another house tell, in order."""
    for row in rows:
        if row[0] == "here":
            turn_to(inside, house, row[1])
        for name in row[-1]:
            inside.hear(house, name)
        if row[0] in TAKES:
            take = TAKES[row[0]]
            take(inside, house, row)
        do_all(inside)


def take_hold(inside, house, row):
    """The outside is offered a name."""
    hold(inside, row[1])


def take_thing(inside, house, row):
    """A thing comes to stand here."""
    _, thing, kind, fields, table, _ = row
    entry = inside.root(thing, house)
    entry.been = True
    entry.table = dict(table)
    inside.here[thing] = (kind, dict(fields))


def take_call(inside, house, row):
    """A call comes here, to go to what it was put on."""
    _, call, to, word, worths, stamp, table, manner, _ = row
    entry = inside.root(call, house)
    if entry.outcome is not None:
        # it was known as lost ahead of this
        inside.send(house, ("told", call, entry.outcome), unlike(holds_in(entry.outcome[1])))
        return
    entry.way = True
    entry.table = dict(table)
    if house not in entry.tells:
        entry.tells.append(house)
    entry.came[house] = to
    inside.calls[call] = Asking(to, word, worths, stamp)
    if manner == "direct" and not is_known_here(inside, house, to):
        forward(inside, call, house, "vain")
        return
    entry.on[to] = True
    if manner == "vain":
        inside.entries[to].vain = True
    inside.later([("target", call, None)])


def is_known_here(inside, house, thing):
    """Whether a thing stands, or stood, here; if so, a house that asks comes to know it by this one."""
    entry = inside.entries.get(thing)
    if entry is None or not entry.been:
        return False
    inside.send(house, ("here", thing), [thing])
    return True


def turn_to(inside, house, thing):
    """Has the way to a thing go by a house where it stood: that is nearer than the one which told its name."""
    entry = inside.entries[thing]
    if not entry.been and entry.parent != house:
        inside.give_back(thing)
        entry.parent = house


def take_told(inside, house, row):
    """The next house on the way to a promise tells what that came to."""
    _, call, outcome, _ = row
    entry = inside.entries.get(call)
    if entry is not None and entry.parent == house:
        inside.later([("settle", call, outcome)])


def take_ask(inside, house, row):
    """A house asks what a promise comes to."""
    name = row[1]
    entry = inside.entries[name]
    if entry.outcome is not None:
        inside.send(house, ("told", name, entry.outcome), unlike(holds_in(entry.outcome[1])))
    else:
        entry.tells.append(house)
        inside.want(name)


def take_drop(inside, house, row):
    """A house gives counts of a name back."""
    _, name, many, _ = row
    entry = inside.entries[name]
    entry.out[house] -= many
    if entry.out[house] == 0:
        del entry.out[house]
        if isinstance(entry, Promise):
            entry.tells = [other for other in entry.tells if other != house]


def take_free(inside, house, row):
    """A call need not wait any more for its elder one."""
    _, call, to, _ = row
    free(inside, call, to)


def take_mark(inside, house, row):
    """A name is held by what another house holds."""
    mark_all(inside, row[1], [row[2]])


TAKES = {
    "hold": take_hold, "thing": take_thing, "call": take_call, "told": take_told, "ask": take_ask,
    "drop": take_drop, "free": take_free, "mark": take_mark,
}


def lose(inside, house):
    """Has it known that another house has fallen."""
    inside.gone[house] = True
    inside.wires.pop(house, None)
    inside.fresh.pop(house, None)
    for name in sorted(list(inside.entries)):
        entry = inside.entries[name]
        entry.out.pop(house, None)
        if entry.parent == house:
            cut_off(inside, name, entry)
        elif isinstance(entry, Promise) and house in entry.came:
            # the house that put the call can't tell any more that an elder one is lost
            free(inside, name, entry.came[house])
    do_all(inside)


def cut_off(inside, name, entry):
    """The way to the root of a name is lost."""
    entry.parent = None
    entry.got = 0
    if isinstance(entry, Promise):
        entry.cut = True
        inside.later([("settle", name, LOST)])
