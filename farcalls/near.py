"""The plain rule: things at one house, with one line, and no letters, points 8 and 9."""

from farcalls.acting import act
from farcalls.errors import BadArgs, NoName
from farcalls.plans import fields_of, filled, need_plan
from farcalls.worths import MOST_PARTS, are_args, copied, holds_in, holds_promise, is_hold, is_word, names_thing

OPEN = ("open",)


class Near:
    """Things at house 0, the outside of which holds all."""

    def __init__(self, plan):
        need_plan(plan)
        self._plan = copied(plan)
        self._made = 0
        self._called = 0
        # of each thing (kind, fields); of each call what settled tells;
        # of each call that hasn't acted (to, word, args);
        # of each open promise the rows (how, call) of what waits there
        self._things = {}
        self._outcomes = {}
        self._asked = {}
        self._waiting = {}
        self._line = []

    def __len__(self):
        return len(self._line)

    def make(self, kind, *, args=()):
        """Makes a thing from outside, and tells its name."""
        self._need_args(args, len(fields_of(self._plan, kind)))
        name = f"0#{self._made}"
        self._made += 1
        self._things[name] = (kind, filled(self._plan, kind, copied(args)))
        return name

    def call(self, to, word, *, args=()):
        """Puts a call from outside, and tells its name."""
        if not self._is_there(to):
            raise NoName(copied(to))
        if not is_word(word):
            raise BadArgs(copied(word))
        self._need_args(args, MOST_PARTS)
        name = f"0:{self._called}"
        self._called += 1
        self._put_call(name, to, word, copied(args))
        return name

    def turn(self):
        """Does the line's first call; tells its row, or None of an empty line."""
        if not self._line:
            return None
        call = self._line.pop(0)
        thing, word, args = self._asked.pop(call)
        kind, fields = self._things[thing]
        outcome, fields, says, makes, puts, _ = act(self._plan, kind, fields, call, me=thing, word=word, args=args)
        self._things[thing] = (kind, fields)
        for name, made, worths in makes:
            self._things[name] = (made, worths)
        for name, to, asked, own, waits in puts:
            if waits:
                self._put_when(name, to, (thing, asked, own))
            else:
                self._put_call(name, to, asked, own)
        self._come_to(call, outcome)
        return (call, thing, word, args, outcome, says)

    def turns(self, most=400):
        """Does so many turns, till the line is empty, and tells their rows."""
        rows = []
        while self._line and len(rows) < most:
            rows.append(self.turn())
        return rows

    def settled(self, name):
        """What a call's promise came to, or that it is open."""
        if not isinstance(name, str) or name not in self._outcomes:
            raise NoName(copied(name))
        return self._outcomes[name]

    def stands(self, name):
        """A thing's (kind, fields)."""
        if not isinstance(name, str) or name not in self._things:
            raise NoName(copied(name))
        kind, fields = self._things[name]
        return (kind, dict(fields))

    def things(self):
        """The names of all things, rising."""
        return sorted(list(self._things))

    def line(self):
        """The calls in the line, in order."""
        return list(self._line)

    def _is_there(self, name):
        return isinstance(name, str) and (name in self._things or name in self._outcomes)

    def _need_args(self, args, most):
        if not are_args(args, most):
            raise BadArgs(copied(args))
        for name in holds_in(args):
            if not self._is_there(name):
                raise NoName(name)

    def _put_call(self, name, to, word, args):
        self._outcomes[name] = OPEN
        self._asked[name] = (to, word, args)
        if names_thing(to):
            self._line.append(name)
        else:
            self._wait("call", name, to)

    def _put_when(self, name, worth, asked):
        self._outcomes[name] = OPEN
        self._asked[name] = asked
        if holds_promise(worth):
            self._wait("when", name, worth[1])
        else:
            self._go_on("when", name, ("kept", worth))

    def _come_to(self, call, outcome):
        """Settles the promise of a call that acted, or lets it hang."""
        if outcome[0] == "kept" and holds_promise(outcome[1]):
            self._wait("hang", call, outcome[1][1])
        else:
            self._go_on("hang", call, outcome)

    def _wait(self, how, call, promise):
        if self._outcomes[promise] == OPEN:
            self._waiting.setdefault(promise, []).append((how, call))
        else:
            self._go_on(how, call, self._outcomes[promise])

    def _go_on(self, how, call, outcome):
        """Lets one go on by an outcome, and behind it, at once, all that waits for what it settles."""
        # rows of these may be longer than calls can nest, so what is due stands in a list
        due = [(how, call, outcome)]
        while due:
            how, call, outcome = due.pop()
            settled = self._step(how, call, outcome)
            if settled is not None:
                self._outcomes[call] = settled
                waiting = self._waiting.pop(call, [])
                due.extend([(way, other, settled) for way, other in reversed(waiting)])

    def _step(self, how, call, outcome):
        """Does what an outcome brings to one that waited for it: tells to what its own promise comes, or None."""
        if how == "hang":
            return outcome
        to, word, args = self._asked[call]
        kept = outcome[0] == "kept"
        if how == "when":
            args = (1 if kept else 0, outcome[1], *args)
        elif kept and is_hold(outcome[1]):
            to = outcome[1][1]
        else:
            del self._asked[call]
            return ("broken", "odd") if kept else outcome
        self._asked[call] = (to, word, args)
        self._line.append(call)
        return None
