"""What a house lets go of: what it finds unheld by itself, and what a round finds unheld by all, points 23 to 26."""

from farcalls.entries import Promise
from farcalls.worths import holds_in


def held_by(inside, name):
    """The names that one holds, as far as that is known here."""
    if name in inside.here:
        _, fields = inside.here[name]
        return holds_in(tuple(list(fields.values())))
    entry = inside.entries[name]
    if not isinstance(entry, Promise):
        return []
    if entry.outcome is not None:
        return holds_in(entry.outcome[1])
    names = list(entry.on)
    if entry.hang is not None:
        names.append(entry.hang)
    if name in inside.calls:
        names.extend(holds_in(inside.calls[name].worths))
    return names


def forget_unheld(inside):
    """Forgets what nothing here holds and no other house may hold."""
    reached = {}
    due = roots(inside)
    while due:
        name = due.pop()
        if name not in reached:
            reached[name] = True
            due.extend(held_by(inside, name))
    for name in sorted(list(inside.entries)):
        if name not in reached:
            inside.give_back(name)
            del inside.entries[name]
            inside.here.pop(name, None)


def roots(inside):
    """The names that are kept whatever else is: held outside or by other houses, or open yet."""
    names = list(inside.outside)
    for name, entry in inside.entries.items():
        if entry.out or isinstance(entry, Promise) and (entry.way or entry.waits):
            names.append(name)
    return names


def begin_round(inside, number):
    """Begins a round: marks all that is held by the outside here."""
    inside.marked = number
    inside.clearing = True
    mark_all(inside, number, list(inside.outside))


def mark_all(inside, number, names):
    """Marks these names, and all that they hold, here and elsewhere."""
    due = list(names)
    while due:
        name = due.pop()
        entry = inside.entries.get(name)
        if entry is None or entry.seen >= number:
            continue
        entry.seen = number
        due.extend(held_by(inside, name))
        houses = [] if entry.parent is None else [entry.parent]
        if isinstance(entry, Promise):
            due.extend([call for how, call in entry.waits if how != "hang"])
            houses.extend([house for house in entry.tells if house != entry.parent])
        for house in houses:
            inside.send(house, ("mark", number, name), [])


def end_round(inside, number):
    """Ends a round: nothing that wasn't marked holds anything any more."""
    inside.clearing = False
    marked = [name for name, entry in inside.entries.items() if entry.seen == number]
    kept = {name: True for name in marked}
    for name in sorted(list(inside.entries)):
        entry = inside.entries[name]
        if name not in kept:
            empty(inside, name, entry)
        entry.sent = [row for row in entry.sent if row[1] in kept]
        if isinstance(entry, Promise):
            entry.waits = [row for row in entry.waits if row[1] in kept]


def empty(inside, name, entry):
    """Takes out of a name all by which it holds others."""
    inside.here.pop(name, None)
    inside.calls.pop(name, None)
    if isinstance(entry, Promise):
        entry.outcome, entry.hang = None, None
        entry.way = False
