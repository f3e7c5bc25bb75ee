"""What is in a house, and how it tells others of names."""

from farcalls.entries import Place, Promise
from farcalls.wires import Wire
from farcalls.worths import names_thing


class Inside:
    """What is in a house: things, calls, what is known of names, and the wires to other houses."""

    def __init__(self, plan, number):
        self.plan = plan
        self.number = number
        # how many things the outside made, how many calls it put, how many calls were put here in all
        self.made = 0
        self.called = 0
        self.stamps = 0
        # of each name its entry; of each thing that stands here (kind, fields); of each call that is here its Asking
        self.entries = {}
        self.here = {}
        self.calls = {}
        self.queue = []
        # the names that the outside holds, the houses told as lost, those that are to be told something new
        self.outside = {}
        self.gone = {}
        self.fresh = {}
        self.wires = {}
        # the houses whose numbers stand in names that came here
        self.named = {}
        # the last round marked, and whether it can be cleared
        self.marked = 0
        self.clearing = False
        # what is to be done at once, the next one last: (what, call, outcome)
        self.due = []

    def twin(self):
        """One that goes on alike, for itself."""
        other = Inside(self.plan, self.number)
        other.made, other.called, other.stamps = self.made, self.called, self.stamps
        other.entries = {name: entry.twin() for name, entry in self.entries.items()}
        other.here = {name: (kind, dict(fields)) for name, (kind, fields) in self.here.items()}
        other.calls = {name: asking.twin() for name, asking in self.calls.items()}
        other.queue = list(self.queue)
        other.outside, other.gone, other.fresh = dict(self.outside), dict(self.gone), dict(self.fresh)
        other.wires = {house: wire.copy() for house, wire in self.wires.items()}
        other.named = dict(self.named)
        other.marked, other.clearing = self.marked, self.clearing
        return other

    def later(self, tasks):
        """Has these done next, in their order."""
        self.due.extend(list(reversed(tasks)))

    def wire(self, house):
        """The wire to a house."""
        if house not in self.wires:
            self.wires[house] = Wire()
        return self.wires[house]

    def send(self, house, row, names):
        """Puts a row to a house that isn't lost; these are the names that it tells."""
        if house in self.gone:
            return
        for name in names:
            out = self.entries[name].out
            out[house] = out.get(house, 0) + 1
        self.wire(house).put((*row, tuple([self.hint(name) for name in names])))
        self.fresh[house] = True

    def know(self, name):
        """The entry of a name, a new one where there is none."""
        if name not in self.entries:
            self.entries[name] = Place() if names_thing(name) else Promise()
            self.named[int(name[0])] = True
        return self.entries[name]

    def may_write_to(self, house):
        """Whether letters may go to a house: it is up, and known by its letters, or by names, offers or moves."""
        return house not in self.gone and (house in self.wires or house in self.named)

    def hint(self, name):
        """A name, and where the thing stood last, as far as that is known here, and the number of that stay."""
        entry = self.entries[name]
        if not isinstance(entry, Place) or entry.spot is None or entry.spot in self.gone:
            return (name, None, 0)
        return (name, entry.spot, entry.spotted)

    def note(self, name, house, stay):
        """Has heard where a thing stood."""
        entry = self.entries[name]
        if isinstance(entry, Place) and stay > entry.spotted and house != self.number:
            entry.spot, entry.spotted = house, stay

    def hear(self, house, name):
        """Has heard a name from a house."""
        if name not in self.entries:
            new = self.know(name)
            new.parent = house
        entry = self.entries[name]
        if entry.parent == house:
            entry.got += 1
        else:
            self.send(house, ("drop", name, 1), [])

    def give_back(self, name):
        """Gives the counts of a name back."""
        entry = self.entries[name]
        if entry.parent is not None:
            self.send(entry.parent, ("drop", name, entry.got), [])
        entry.parent = None
        entry.got = 0

    def root(self, name, house):
        """The entry of a name, the root of which came here from a house; that is now behind this one."""
        entry = self.know(name)
        self.give_back(name)
        entry.out[house] = entry.out.get(house, 0) + 1
        return entry

    def part(self, name, house):
        """Lets the root of a name go to a house; that will count this one when it comes there."""
        entry = self.entries[name]
        entry.parent = house
        entry.got = 1

    def want(self, name):
        """Asks what an open promise comes to, where that will not be told anyway."""
        entry = self.entries[name]
        if entry.outcome is None and entry.parent is not None and not entry.asked:
            entry.asked = True
            self.send(entry.parent, ("ask", name), [])
