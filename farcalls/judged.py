"""Runs judged: which is the first act that no run has behind those ahead of it, points 35 and 36."""

from farcalls.acting import act
from farcalls.plans import filled
from farcalls.worths import HOUSES, holds_promise, is_hold, names_thing

LOST = (0, "lost")
ODD = ("broken", "odd")


class Put:
    """A call or a when that was put: by whom, on what, with what."""

    def __init__(self, by, to, word, worths):
        self.by = by
        self.to = to
        self.word = word
        self.worths = worths


class Stay:
    """A thing as it is now: where it stands, and how often it moved."""

    def __init__(self, kind, fields, house):
        self.kind = kind
        self.fields = fields
        self.house = house
        self.moves = 0


class Run:
    """A run of a plan and the outside's deeds, as far as it came."""

    def __init__(self, plan, spared):
        self.plan = plan
        # the calls that may be lost
        self.spared = {call: True for call in spared}
        # the whens have the worths that they wait for; the outcomes are those of acts, be they holds of promises;
        # the rows are the calls on one name by the same one, in order
        self.stays = {}
        self.puts = {}
        self.whens = {}
        self.outcomes = {}
        self.rows = {}


def first_odd(plan, outer, acts, *, lost=()):
    """The place of the first act that no run has there, None where they are the beginning of one."""
    if not isinstance(acts, list):
        return 0
    run = Run(plan, lost)
    for deed in outer:
        if deed[0] == "make":
            _, name, kind, args = deed
            run.stays[name] = Stay(kind, filled(plan, kind, args), HOUSES.index(name[0]))
        else:
            _, name, to, word, args = deed
            put_call(run, name, Put(name[0], to, word, args))
    for at, row in enumerate(acts):
        if not goes_on(run, row):
            return at
    return None


def put_call(run, name, put):
    """Puts a call behind those on the same name by the same one."""
    run.puts[name] = put
    run.rows.setdefault((put.by, put.to), []).append(name)


def goes_on(run, row):
    """Whether a run can go on by an act; if so, it does."""
    if not isinstance(row, tuple) or len(row) != 6:
        return False
    call, thing = row[0], row[1]
    if not isinstance(call, str) or call not in run.puts or call in run.outcomes:
        return False
    put = run.puts[call]
    if call in run.whens:
        target, argses = put.to, args_of_when(run, call)
    else:
        target, argses = target_of(run, put.to), [put.worths]
    if target not in run.stays or not alike(thing, target) or not is_next(run, call):
        return False
    if not alike(row[2], put.word) or not any([alike(row[3], args) for args in argses]):
        return False
    return acts_so(run, call, target, row)


def is_next(run, call):
    """Whether each call put ahead on the same name by the same one has acted, or may be lost."""
    if call in run.whens:
        return True
    put = run.puts[call]
    row = run.rows[(put.by, put.to)]
    return all([other in run.outcomes or other in run.spared for other in row[:row.index(call)]])


def target_of(run, to):
    """The thing that a call on this name acts on, None where there is none yet."""
    if names_thing(to):
        return to
    outcome = outcome_of(run, to)
    return outcome[1][1] if outcome is not None and is_hold(outcome[1]) else None


def outcome_of(run, promise):
    """What a promise is settled by, None where it is open."""
    # a row of promises, each of which waits or hangs on the next one, may be longer than calls can nest
    seen, waited = {}, False
    while promise not in seen:
        seen[promise] = True
        outcome = run.outcomes.get(promise)
        if outcome is None:
            if promise not in run.puts:
                return None
            waited = True
            promise = run.puts[promise].to
        elif holds_promise(outcome[1]):
            promise = outcome[1][1]
        elif waited and outcome[0] == "kept":
            # what was put on a thing's promise goes on to the thing, and may act yet
            return None if is_hold(outcome[1]) else ODD
        else:
            return outcome
    return None


def args_of_when(run, call):
    """The args with which a when may come now: none, or several."""
    worth = run.whens[call]
    own = run.puts[call].worths
    if not holds_promise(worth):
        return [(1, worth, *own)]
    found = []
    outcome = outcome_of(run, worth[1])
    if outcome is not None:
        found.append((1 if outcome[0] == "kept" else 0, outcome[1], *own))
    if worth[1] in run.spared:
        found.append((*LOST, *own))
    return found


def acts_so(run, call, thing, row):
    """Whether the act comes to what the row tells; if so, it is done."""
    stay = run.stays[thing]
    done = act(run.plan, stay.kind, stay.fields, call, me=thing, word=row[2], args=row[3])
    outcome, fields, says, makes, puts, goes = done
    if not alike(row[4], outcome) or not alike(row[5], says):
        return False
    run.outcomes[call] = outcome
    stay.fields = fields
    for name, kind, worths in makes:
        run.stays[name] = Stay(kind, worths, stay.house)
    by = (thing, stay.moves)
    for name, to, word, args, waits in puts:
        if waits:
            run.puts[name] = Put(by, thing, word, args)
            run.whens[name] = to
        else:
            put_call(run, name, Put(by, to, word, args))
    if goes is not None and goes != stay.house:
        stay.house = goes
        stay.moves += 1
    return True


def alike(one, other):
    """Whether two things are alike kind for kind: True isn't 1, and a list is no tuple."""
    due = [(one, other)]
    while due:
        one, other = due.pop()
        if isinstance(other, tuple):
            if not isinstance(one, tuple) or len(one) != len(other):
                return False
            due.extend(list(zip(one, other)))
        elif isinstance(one, (bool, tuple, list, dict)) or one != other:
            return False
    return True
