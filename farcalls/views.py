"""Views: which entry is the first that isn't a house's, and the house that did them all, point 31."""

from farcalls.errors import BadArgs, BadView, NoHouse, NoLetter, NoRound
from farcalls.houses import House
from farcalls.judged import alike


def first_wrong(plan, number, view):
    """The place of the first entry that a house of this plan and number hasn't there, None where there is none."""
    _, place = redone(plan, number, view)
    return place


def again_of(plan, number, view):
    """The house that does all the deeds of a view."""
    house, place = redone(plan, number, view)
    if place is not None:
        raise BadView(place)
    return house


def redone(plan, number, view):
    """A house that did the deeds of a view, and the place of the first wrong entry, at which it stopped, or None."""
    house = House(plan, number)
    if not isinstance(view, list):
        return (house, 0)
    for at, entry in enumerate(view):
        if not isinstance(entry, tuple) or len(entry) != 3:
            return (house, at)
        word, things, told = entry
        if not does(house, word, things) or not alike(told, house.told_last()):
            return (house, at)
    return (house, None)


def does(house, word, things):
    """Has a house do a deed; whether it is one that takes these things, and isn't refused."""
    if not isinstance(word, str) or word not in MANY or not isinstance(things, tuple) or len(things) != MANY[word]:
        return False
    do = DOES[word]
    try:
        do(house, *things)
    except (BadArgs, NoHouse, NoLetter, NoRound, KeyError):
        # a name, or a kind, that isn't there; also one in a letter that was never posted so to this house
        return False
    return True


def do_make(house, kind, args):
    """Does a make."""
    house.make(kind, args=args)


def do_call(house, to, word, args):
    """Does a call."""
    house.call(to, word, args=args)


def do_offer(house, other, name):
    """Does an offer."""
    house.offer(other, name)


def do_let_go(house, name):
    """Does a let_go."""
    house.let_go(name)


def do_turn(house):
    """Does a turn."""
    house.turn()


def do_take(house, other, letter):
    """Does a take."""
    house.take(other, letter)


def do_post(house):
    """Does a post."""
    house.post()


def do_again(house):
    """Does an again."""
    house.again()


def do_lost(house, other):
    """Does a lost."""
    house.lost(other)


def do_sweep(house):
    """Does a sweep."""
    house.sweep()


def do_mark(house, number):
    """Does a mark."""
    house.mark(number)


def do_clear(house, number):
    """Does a clear."""
    house.clear(number)


# of each deed how many things it takes, and the function that does it
MANY = {
    "make": 2, "call": 3, "offer": 2, "let_go": 1, "turn": 0, "take": 2, "post": 0, "again": 0, "lost": 1,
    "sweep": 0, "mark": 1, "clear": 1,
}
DOES = {
    "make": do_make, "call": do_call, "offer": do_offer, "let_go": do_let_go, "turn": do_turn, "take": do_take,
    "post": do_post, "again": do_again, "lost": do_lost, "sweep": do_sweep, "mark": do_mark, "clear": do_clear,
}
