"""How calls go: to where their thing stands, or behind a promise, and on from there, points 8, 13, 14 and 22."""

from farcalls.entries import Asking, Promise
from farcalls.worths import holds_in, holds_promise, is_hold, names_thing

LOST = ("broken", "lost")
ODD = ("broken", "odd")
# in the place of a stay's number: the call goes by the way to its root, or comes back since the thing never was there
PLAIN = 0
VAIN = -1


def do_all(inside):
    """Does all that is to be done at once, what each brings about ahead of the others."""
    # rows of what waits may be longer than calls can nest, so what is due stands in a list
    while inside.due:
        what, call, outcome = inside.due.pop()
        do = TASKS[what]
        do(inside, call, outcome)


def unlike(names):
    """The names, each once, in their order."""
    return list({name: True for name in names})


def put_call(inside, call, to, word, worths):
    """Puts a call here."""
    entry = inside.know(call)
    entry.way = True
    entry.on[to] = True
    inside.calls[call] = Asking(to, word, worths, stamp_of(inside, call, to))
    inside.later([("target", call, None)])
    do_all(inside)


def put_when(inside, call, worth, thing, word, worths):
    """Puts a when here, which waits for a worth."""
    entry = inside.know(call)
    entry.way = True
    entry.on[thing] = True
    inside.calls[call] = Asking(thing, word, worths, None)
    if holds_promise(worth):
        wait(inside, "when", call, worth[1])
    else:
        inside.later([("when", call, ("kept", worth))])
    do_all(inside)


def stamp_of(inside, call, to):
    """The stamp of a call that is put here: by it the calls on a name act in the order in which they were put."""
    sent = inside.entries[to].sent
    elder = sent[-1][0] if sent else None
    number = inside.stamps
    inside.stamps += 1
    sent.append((number, call))
    return (inside.number, number, elder)


def come_to(inside, call, outcome):
    """Settles the promise of a call that acted here, or lets it hang."""
    if outcome[0] == "kept" and holds_promise(outcome[1]):
        entry = inside.entries[call]
        entry.hang = outcome[1][1]
        wait(inside, "hang", call, outcome[1][1])
    else:
        inside.later([("settle", call, outcome)])
    do_all(inside)


def wait(inside, how, call, promise):
    """Lets one wait till it is known here what a promise came to."""
    entry = inside.entries[promise]
    if entry.outcome is None:
        entry.waits.append((how, call))
        inside.want(promise)
    else:
        inside.later([(how, call, entry.outcome)])


def settle(inside, call, outcome):
    """Has it known here what a promise came to."""
    entry = inside.entries[call]
    if entry.outcome is not None:
        return
    inside.calls.pop(call, None)
    entry.outcome = outcome
    names = unlike(holds_in(outcome[1]))
    for house in entry.tells:
        inside.send(house, ("told", call, outcome), names)
    take_off(inside, call, entry)
    waits = entry.waits
    entry.tells, entry.waits, entry.on, entry.came = [], [], {}, {}
    entry.way, entry.hang = False, None
    if call in inside.outside:
        for name in names:
            hold(inside, name)
    inside.later([(how, other, outcome) for how, other in waits])


def take_off(inside, call, entry):
    """Takes a call that is settled from those under way; a lost one is waited for by the next one no more."""
    for name in entry.on:
        sent = inside.entries[name].sent
        calls = [other for _, other in sent]
        if call in calls:
            at = calls.index(call)
            del sent[at]
            if entry.outcome == LOST and at < len(sent):
                free(inside, sent[at][1], name, sent[at - 1][0] if at > 0 else None)


def free(inside, call, to, elder):
    """Has a call on a name wait for no younger call than this elder one (None: for none), wherever it is."""
    asking = inside.calls.get(call)
    if asking is None:
        parent = inside.entries[call].parent
        if parent is not None:
            inside.send(parent, ("free", call, to, elder), [])
    elif asking.to == to and asking.stamp is not None:
        house, number, known = asking.stamp
        if known is None or elder is not None and elder >= known:
            # what is told here last may have been told there first
            return
        asking.stamp = (house, number, elder)
        late = inside.entries[to].late
        if call in late:
            late.remove(call)
            inside.later([("target", call, None)])


def hold(inside, name):
    """Lets the outside hold a name, and what is known to come of it."""
    due = [name]
    while due:
        one = due.pop()
        if one in inside.outside:
            continue
        inside.outside[one] = True
        entry = inside.entries[one]
        if isinstance(entry, Promise):
            inside.want(one)
            due.extend(holds_in(entry.outcome[1]) if entry.outcome is not None else [])


def target(inside, call, _):
    """Lets a call go to what it was put on: here, or at another house."""
    asking = inside.calls[call]
    name = asking.to
    entry = inside.entries.get(name)
    if is_root(inside, name, entry):
        let_in(inside, call, asking, entry)
        return
    house, stay = straight_to(inside, name, entry)
    if house is not None:
        forward(inside, call, house, stay)
    elif entry.parent is None:
        inside.later([("settle", call, LOST)])
    else:
        forward(inside, call, entry.parent, PLAIN)


def is_root(inside, name, entry):
    """Whether calls on a name go no further than here."""
    if names_thing(name):
        return name in inside.here
    return entry.parent is None and not entry.cut


def home_of(name):
    """The house at which a thing was made from outside, None of other names."""
    head, _, _ = name.partition("#")
    return int(head) if len(head) == 1 else None


def straight_to(inside, name, entry):
    """The house to which a call goes straight, past those from which the name came here, and the thing's stay there."""
    if not names_thing(name):
        return (None, PLAIN)
    spots = [(entry.spot, entry.spotted)]
    if entry.stay == 0 and not entry.vain:
        spots.append((home_of(name), 1))
    for house, stay in [spot for spot in spots if spot[0] is not None]:
        if house == entry.parent:
            break
        if house != inside.number and inside.may_write_to(house):
            return (house, stay)
    return (None, PLAIN)


def let_in(inside, call, asking, entry):
    """Lets a call in at what it was put on, or has it wait till its elder ones were."""
    tasks = [("enter", call, None)]
    if asking.stamp is not None:
        house, number, elder = asking.stamp
        last = entry.table.get(house, -1)
        if number <= last:
            # a younger one was let in, since this one was known as lost
            inside.later([("settle", call, LOST)])
            return
        if elder is not None and last < elder:
            entry.late.append(call)
            return
        entry.table[house] = number
        asking.stamp = None
        tasks.extend([("target", other, None) for other in entry.late])
        entry.late = []
    inside.later(tasks)


def enter(inside, call, _):
    """Puts a call that was let in to the line's end, or behind its promise."""
    name = inside.calls[call].to
    if names_thing(name):
        inside.queue.append(call)
    else:
        wait(inside, "call", call, name)


def go_on_call(inside, call, outcome):
    """Lets a call go on from its promise."""
    if outcome[0] == "kept" and is_hold(outcome[1]):
        asking, entry = inside.calls[call], inside.entries[call]
        asking.to = outcome[1][1]
        asking.stamp = stamp_of(inside, call, asking.to)
        entry.on[asking.to] = True
        inside.later([("target", call, None)])
    else:
        inside.later([("settle", call, ODD if outcome[0] == "kept" else outcome)])


def go_on_when(inside, call, outcome):
    """Lets a when go on: it is a call on its thing."""
    asking = inside.calls[call]
    asking.worths = (1 if outcome[0] == "kept" else 0, outcome[1], *asking.worths)
    inside.later([("target", call, None)])


def forward(inside, call, house, stay):
    """Sends a call to another house, where its thing was by this stay, and behind it the calls that wait for it."""
    asking = inside.calls.pop(call)
    entry = inside.entries[call]
    table = tuple(sorted(list(entry.table.items())))
    row = ("call", call, asking.to, asking.word, asking.worths, asking.stamp, table, stay)
    inside.send(house, row, unlike(holds_in(asking.worths)))
    inside.part(call, house)
    entry.asked = True
    behind = [other for how, other in entry.waits if how == "call"] + entry.late
    entry.waits = [(how, other) for how, other in entry.waits if how != "call"]
    entry.late = []
    inside.later([("target", other, None) for other in behind])


TASKS = {
    "settle": settle, "target": target, "enter": enter, "call": go_on_call, "when": go_on_when, "hang": settle,
}
