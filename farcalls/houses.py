"""Houses: told deeds and letters, they tell what they are asked, and letters, points 11 to 26, 29 and 30."""

from farcalls.comings import act_first, call_outside, lose, make_outside, take_rows
from farcalls.errors import BadArgs, NoHouse, NoLetter, NoName, NoRound
from farcalls.housewords import house_text
from farcalls.insides import Inside
from farcalls.keepings import begin_round, end_round, forget_unheld
from farcalls.plans import fields_of, need_plan
from farcalls.wires import Wire, is_number
from farcalls.worths import MOST_PARTS, are_args, copied, holds_in, is_house, is_word, names_thing


class House:
    """A house, which knows no other one."""

    def __init__(self, plan, number):
        need_plan(plan)
        if not is_house(number):
            raise NoHouse(copied(number))
        self._plan = copied(plan)
        self._number = number
        self._inside = Inside(self._plan, number)
        self._view = []

    def __len__(self):
        return len(self._inside.entries)

    def __eq__(self, other):
        return (isinstance(other, House) and self._plan == other._plan and self._number == other._number
                and self._view == other._view)

    def __str__(self):
        return str(house_text(self._plan, self._number, self._view))

    def copy(self):
        """A house that goes on alike, for itself."""
        other = House(self._plan, self._number)
        other._inside = self._inside.twin()
        other._view = list(self._view)
        return other

    def make(self, kind, *, args=()):
        """Makes a thing from outside, and tells its name."""
        self._need_args(args, len(fields_of(self._plan, kind)))
        worths = copied(args)
        return self._did("make", (kind, worths), make_outside(self._inside, kind, worths))

    def call(self, to, word, *, args=()):
        """Puts a call from outside, and tells its name."""
        self._need_held(to)
        if not is_word(word):
            raise BadArgs(copied(word))
        self._need_args(args, MOST_PARTS)
        worths = copied(args)
        return self._did("call", (to, word, worths), call_outside(self._inside, to, word, worths))

    def offer(self, house, name):
        """Lets the outside of another house hold a name, too."""
        self._need_other(house)
        self._need_held(name)
        self._inside.send(house, ("hold", name), [name])
        self._did("offer", (house, name), None)

    def let_go(self, name):
        """Lets the outside hold a name no more."""
        self._need_held(name)
        del self._inside.outside[name]
        self._did("let_go", (name,), None)

    def turn(self):
        """Does the line's first call; tells its row, or None of an empty line."""
        return self._did("turn", (), act_first(self._inside) if self._inside.queue else None)

    def take(self, house, letter):
        """Takes a letter of another house."""
        self._need_other(house)
        if not isinstance(letter, tuple):
            raise NoLetter(copied(letter))
        inside, told = self._inside, copied(letter)
        if house not in inside.gone:
            wire = inside.wires.get(house, Wire())
            rows = wire.take(told)
            inside.wires[house] = wire
            if told[2]:
                # also what comes once more is told to be heard: that it was may have been lost
                inside.fresh[house] = True
            take_rows(inside, house, rows)
        self._did("take", (house, told), None)

    def post(self):
        """The letters to those houses to which there is something new, rising by houses."""
        return self._letters("post", sorted(list(self._inside.fresh)))

    def again(self):
        """The letters to those houses to which something isn't known to be heard, rising by houses."""
        wires = self._inside.wires
        return self._letters("again", [house for house in sorted(list(wires)) if len(wires[house]) > 0])

    def lost(self, house):
        """Is told that another house has fallen."""
        self._need_other(house)
        if house not in self._inside.gone:
            lose(self._inside, house)
        self._did("lost", (house,), None)

    def sweep(self):
        """Lets go of what this house finds unheld by itself."""
        forget_unheld(self._inside)
        self._did("sweep", (), None)

    def mark(self, number):
        """Begins a round."""
        if not is_number(number) or number <= self._inside.marked:
            raise NoRound(copied(number))
        begin_round(self._inside, number)
        self._did("mark", (number,), None)

    def clear(self, number):
        """Ends a round."""
        inside = self._inside
        if not is_number(number) or number != inside.marked or not inside.clearing:
            raise NoRound(copied(number))
        end_round(inside, number)
        self._did("clear", (number,), None)

    def settled(self, name):
        """What a name is, or came to, as far as it is known here."""
        self._need_held(name)
        if names_thing(name):
            return ("thing",)
        outcome = self._inside.entries[name].outcome
        return ("open",) if outcome is None else outcome

    def stands(self, name):
        """The (kind, fields) of a thing that stands here."""
        if not isinstance(name, str) or name not in self._inside.here:
            raise NoName(copied(name))
        kind, fields = self._inside.here[name]
        return (kind, dict(fields))

    def things(self):
        """The names of the things that stand here, rising."""
        return sorted(list(self._inside.here))

    def line(self):
        """The calls in the line, in order."""
        return list(self._inside.queue)

    def held(self):
        """The names that the outside holds, rising."""
        return sorted(list(self._inside.outside))

    def names(self):
        """All names of which anything is kept, rising."""
        return sorted(list(self._inside.entries))

    def told_last(self):
        """What was told of the last deed."""
        return self._view[-1][2]

    def is_heard(self):
        """Whether all that was put to other houses is known to be heard there."""
        return all([len(wire) == 0 for wire in self._inside.wires.values()])

    def view(self):
        """All that was told and not refused, and what was told of it, in order."""
        return list(self._view)

    def _did(self, word, things, told):
        self._view.append((word, things, told))
        return told

    def _letters(self, word, houses):
        inside = self._inside
        letters = []
        for house in houses:
            inside.fresh.pop(house, None)
            letters.append((house, inside.wires[house].letter()))
        self._did(word, (), tuple(letters))
        return letters

    def _need_other(self, house):
        if not is_house(house) or house == self._number:
            raise NoHouse(copied(house))

    def _need_held(self, name):
        if not isinstance(name, str) or name not in self._inside.outside:
            raise NoName(copied(name))

    def _need_args(self, args, most):
        if not are_args(args, most):
            raise BadArgs(copied(args))
        for name in holds_in(args):
            self._need_held(name)
