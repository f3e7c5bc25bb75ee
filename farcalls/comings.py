"""What a house does by itself: acts, moves, what other houses tell, and what their falls bring, points 13 to 22."""

from farcalls.acting import act
from farcalls.entries import Asking, Promise
from farcalls.goings import LOST, PLAIN, VAIN, come_to, do_all, forward, free, hold, home_of, put_call, put_when, unlike
from farcalls.keepings import mark_all
from farcalls.plans import filled
from farcalls.worths import holds_in


def make_thing(inside, name, kind, fields):
    """Has a new thing stand here."""
    stay_here(inside, inside.know(name), 1)
    inside.here[name] = (kind, fields)


def stay_here(inside, entry, stay):
    """A thing begins its stay of this number here."""
    entry.stay = entry.spotted = stay
    entry.spot = inside.number


def make_outside(inside, kind, args):
    """Makes a thing from outside, and tells its name."""
    name = f"{inside.number}#{inside.made}"
    inside.made += 1
    make_thing(inside, name, kind, filled(inside.plan, kind, args))
    inside.outside[name] = True
    return name


def call_outside(inside, to, word, args):
    """Puts a call from outside, and tells its name."""
    name = f"{inside.number}:{inside.called}"
    inside.called += 1
    inside.outside[name] = True
    put_call(inside, name, to, word, args)
    return name


def act_first(inside):
    """Does the first call of the line, and tells its row."""
    call = inside.queue.pop(0)
    asking = inside.calls.pop(call)
    thing, word, args = asking.to, asking.word, asking.worths
    kind, fields = inside.here[thing]
    outcome, fields, says, makes, puts, goes = act(inside.plan, kind, fields, call, me=thing, word=word, args=args)
    inside.here[thing] = (kind, fields)
    for name, made, worths in makes:
        make_thing(inside, name, made, worths)
    for name, to, asked, own, waits in puts:
        if waits:
            put_when(inside, name, to, thing, asked, own)
        else:
            put_call(inside, name, to, asked, own)
    come_to(inside, call, outcome)
    if goes is not None and goes != inside.number and goes not in inside.gone:
        move(inside, thing, goes)
    return (call, thing, word, args, outcome, says)


def move(inside, thing, house):
    """Lets a thing go to another house, and behind it its calls in the line."""
    kind, fields = inside.here.pop(thing)
    entry = inside.entries[thing]
    table = tuple(sorted(list(entry.table.items())))
    told = tuple(list(fields.items()))
    row = ("thing", thing, kind, told, table, entry.stay + 1)
    inside.send(house, row, unlike(holds_in(tuple(list(fields.values())))))
    inside.part(thing, house)
    inside.note(thing, house, entry.stay + 1)
    calls = [call for call in inside.queue if inside.calls[call].to == thing]
    inside.queue = [call for call in inside.queue if inside.calls[call].to != thing]
    late = entry.late
    entry.late = []
    inside.later([("target", call, None) for call in calls + late])
    do_all(inside)


def take_rows(inside, house, rows):
    """Does what the rows of a letter of another house tell, in order."""
    for row in rows:
        if row[0] == "here":
            turn_to(inside, house, row[1], row[2])
        for name, spot, stay in row[-1]:
            inside.hear(house, name)
            inside.note(name, spot, stay)
        if row[0] in TAKES:
            take = TAKES[row[0]]
            take(inside, house, row)
        do_all(inside)


def take_hold(inside, house, row):
    """The outside is offered a name."""
    hold(inside, row[1])


def take_thing(inside, house, row):
    """A thing comes to stand here."""
    _, thing, kind, fields, table, stay, _ = row
    entry = inside.root(thing, house)
    stay_here(inside, entry, stay)
    entry.table = dict(table)
    inside.here[thing] = (kind, dict(fields))


def take_call(inside, house, row):
    """A call comes here, to go to what it was put on."""
    _, call, to, word, worths, stamp, table, stay, _ = row
    entry = inside.root(call, house)
    if entry.outcome is not None:
        # it was known as lost ahead of this
        inside.send(house, ("told", call, entry.outcome), unlike(holds_in(entry.outcome[1])))
        return
    entry.way = True
    entry.table = dict(table)
    if house not in entry.tells:
        entry.tells.append(house)
    entry.came[house] = to
    inside.calls[call] = Asking(to, word, worths, stamp)
    if stay > PLAIN and not was_here(inside, house, to, stay):
        forward(inside, call, house, VAIN)
        return
    entry.on[to] = True
    if stay == VAIN:
        ask_no_more(inside, house, to)
    inside.later([("target", call, None)])


def was_here(inside, house, thing, stay):
    """Whether this stay of a thing, or a later one, was here; if so, a house that asks comes to know it by this one."""
    entry = inside.entries.get(thing)
    if entry is None or entry.stay < stay or thing not in inside.here and entry.parent is None:
        return False
    inside.send(house, ("here", thing, entry.stay), [thing])
    return True


def ask_no_more(inside, house, thing):
    """Has no calls go straight to a house any more that knows no such stay of the thing."""
    entry = inside.entries[thing]
    if entry.spot == house:
        entry.spot = None
    if home_of(thing) == house:
        entry.vain = True


def turn_to(inside, house, thing, stay):
    """Has the way to a thing go by a house where it stood later than here."""
    # only ever to later stays, so that no way leads back to where it began
    entry = inside.know(thing)
    if stay > entry.stay and entry.parent != house:
        inside.give_back(thing)
        entry.parent = house


def take_told(inside, house, row):
    """The next house on the way to a promise tells what that came to."""
    _, call, outcome, _ = row
    entry = inside.entries.get(call)
    if entry is not None and entry.parent == house:
        inside.later([("settle", call, outcome)])


def take_ask(inside, house, row):
    """A house asks what a promise comes to."""
    name = row[1]
    entry = inside.entries[name]
    if entry.outcome is not None:
        inside.send(house, ("told", name, entry.outcome), unlike(holds_in(entry.outcome[1])))
    else:
        entry.tells.append(house)
        inside.want(name)


def take_drop(inside, house, row):
    """A house gives counts of a name back."""
    _, name, many, _ = row
    entry = inside.entries[name]
    entry.out[house] -= many
    if entry.out[house] == 0:
        del entry.out[house]
        if isinstance(entry, Promise):
            entry.tells = [other for other in entry.tells if other != house]


def take_free(inside, house, row):
    """A call need not wait any more for its elder one."""
    _, call, to, elder, _ = row
    free(inside, call, to, elder)


def take_mark(inside, house, row):
    """A name is held by what another house holds."""
    mark_all(inside, row[1], [row[2]])


TAKES = {
    "hold": take_hold, "thing": take_thing, "call": take_call, "told": take_told, "ask": take_ask,
    "drop": take_drop, "free": take_free, "mark": take_mark,
}


def lose(inside, house):
    """Has it known that another house has fallen."""
    inside.gone[house] = True
    inside.wires.pop(house, None)
    inside.fresh.pop(house, None)
    for name in sorted(list(inside.entries)):
        entry = inside.entries[name]
        entry.out.pop(house, None)
        if entry.parent == house:
            cut_off(inside, name, entry)
        elif isinstance(entry, Promise) and house in entry.came:
            # the house that put the call can't tell any more that an elder one is lost
            free(inside, name, entry.came[house], None)
    do_all(inside)


def cut_off(inside, name, entry):
    """The way to the root of a name is lost."""
    entry.parent = None
    entry.got = 0
    if isinstance(entry, Promise):
        entry.cut = True
        inside.later([("settle", name, LOST)])
