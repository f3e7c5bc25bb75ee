"""Acts: what comes of one call on one thing, point 7."""

from farcalls.plans import filled, method_of
from farcalls.worths import MOST_NUMBER, copied, holds_in, is_hold, is_whole, is_worth


class Fault(Exception):
    """Ends an act: its outcome is broken with this word."""

    def __init__(self, word):
        self.word = word


class Doing:
    """An act under way, of the call that is its cause: its vars, and what it has done so far."""

    def __init__(self, plan, fields, cause, me):
        self.plan = plan
        self.fields = fields
        self.cause = cause
        self.me = me
        self.known = {}
        self.says = []
        self.makes = []
        self.puts = []
        self.goes = None


def act(plan, kind, fields, call, *, me, word, args=()):
    """What comes of a call: the tuple (outcome, fields, says, makes, puts, goes)."""
    method = method_of(plan, kind, word, len(args))
    doing = Doing(plan, copied(fields), call, me)
    try:
        outcome = done(doing, method, copied(args))
    except Fault as fault:
        return (("broken", fault.word), copied(fields), (), (), (), None)
    return (outcome, doing.fields, tuple(doing.says), tuple(doing.makes), tuple(doing.puts), doing.goes)


def done(doing, method, args):
    """Does the deeds of a method, or of None, and tells the outcome."""
    if method is None:
        raise Fault("odd")
    for param, worth in zip(method[1], args):
        doing.known[param] = worth
    given = given_by(method[2], doing)
    return ("kept", None) if given is None else given


def given_by(deeds, doing):
    """Does deeds in order: the outcome where one gave it, else None."""
    for deed in deeds:
        if deed[0] == "give":
            return ("kept", worth_of(deed[1], doing))
        if deed[0] == "if":
            given = given_by(chosen(deed, doing), doing)
            if given is not None:
                return given
        else:
            do = DEEDS[deed[0]]
            do(deed, doing)
    return None


def chosen(deed, doing):
    """The deeds of an if that are to be done."""
    worth = worth_of(deed[1], doing)
    return deed[3] if worth is None or worth == 0 else deed[2]


def do_let(deed, doing):
    """Does a let."""
    doing.known[deed[1]] = worth_of(deed[2], doing)


def do_set(deed, doing):
    """Does a set."""
    doing.fields[deed[1]] = worth_of(deed[2], doing)


def do_say(deed, doing):
    """Does a say."""
    doing.says.append(worth_of(deed[1], doing))


def do_make(deed, doing):
    """Does a make."""
    _, v, kind, xs = deed
    name = f"{doing.cause}#{len(doing.makes)}"
    doing.makes.append((name, kind, filled(doing.plan, kind, worths_of(xs, doing))))
    doing.known[v] = ("to", name)


def do_call(deed, doing):
    """Does a call."""
    _, v, x, word, xs = deed
    to = worth_of(x, doing)
    if not is_hold(to):
        raise Fault("odd")
    name = f"{doing.cause}.{len(doing.puts)}"
    doing.puts.append((name, to[1], word, worths_of(xs, doing), False))
    doing.known[v] = ("to", name)


def do_when(deed, doing):
    """Does a when."""
    _, x, word, xs = deed
    name = f"{doing.cause}.{len(doing.puts)}"
    doing.puts.append((name, worth_of(x, doing), word, worths_of(xs, doing), True))


def do_fail(deed, doing):
    """Does a fail."""
    raise Fault(deed[1])


def do_move(deed, doing):
    """Does a move; the last one counts."""
    doing.goes = deed[1]


DEEDS = {
    "let": do_let, "set": do_set, "say": do_say, "make": do_make, "call": do_call, "when": do_when,
    "fail": do_fail, "move": do_move,
}


def worths_of(xs, doing):
    """The worths of some X."""
    return tuple([worth_of(x, doing) for x in xs])


def worth_of(x, doing):
    """The worth of an X."""
    word = x[0]
    if word == "is":
        return copied(x[1])
    if word == "var":
        return doing.known[x[1]]
    if word == "own":
        return doing.fields[x[1]]
    if word == "me":
        return ("to", doing.me)
    if word == "at":
        return part_of(worth_of(x[1], doing), x[2])
    parts = worths_of(x[1:], doing)
    if word == "row":
        return need_worth(parts)
    combine = PAIRS[word]
    return combine(parts[0], parts[1])


def need_worth(row):
    """A tuple that is a worth, else a fault."""
    if not is_worth(row):
        raise Fault("odd")
    return row


def part_of(worth, k):
    """The k-th part of a tuple, None where it hasn't so many."""
    if not isinstance(worth, tuple) or is_hold(worth):
        raise Fault("odd")
    return worth[k] if k < len(worth) else None


def need_number(worth):
    """A whole number, not too great either way, else a fault."""
    if not is_whole(worth, -MOST_NUMBER, MOST_NUMBER):
        raise Fault("odd")
    return worth


def plus(one, other):
    """The sum of two numbers."""
    return need_number(need_number(one) + need_number(other))


def times(one, other):
    """The product of two numbers."""
    return need_number(need_number(one) * need_number(other))


def less(one, other):
    """1 where the first of two numbers, or of two words, is less, else 0."""
    if isinstance(one, str) and isinstance(other, str):
        return 1 if one < other else 0
    return 1 if need_number(one) < need_number(other) else 0


def same(one, other):
    """1 where two worths without holds are alike, else 0."""
    if holds_in(one) or holds_in(other):
        raise Fault("odd")
    return 1 if one == other else 0


PAIRS = {"plus": plus, "times": times, "less": less, "same": same}
