"""What a deed, and an X, of a plan is, point 5."""

from farcalls.worths import MOST_PARTS, is_bare, is_house, is_whole, is_word

MOST_DEEDS = 40
MOST_IFS = 3
MOST_WHEN = 3
MOST_AT = 4
DEEP_X = 4
PARTS = {"let": 2, "set": 2, "say": 1, "make": 3, "call": 4, "when": 3, "if": 3, "give": 1, "fail": 1, "move": 1}
NAMING = ("let", "make", "call")


class Scope:
    """What the deeds of one method may name, and how many more of them there may be."""

    # fields is a list, in which anything can be looked for; sizes a dict: how many fields a kind has
    def __init__(self, fields, sizes):
        self.fields = fields
        self.sizes = sizes
        self.left = MOST_DEEDS


def is_x(thing, scope, known, deep=DEEP_X):
    """Whether it is an X, at most so many within one another, of the vars known there."""
    if deep == 0 or not begins_with_text(thing):
        return False
    word, parts = thing[0], thing[1:]
    if word == "is":
        return len(parts) == 1 and is_bare(parts[0])
    if word == "var":
        return len(parts) == 1 and is_word(parts[0]) and parts[0] in known
    if word == "own":
        return len(parts) == 1 and parts[0] in scope.fields
    if word == "at":
        return len(parts) == 2 and is_x(parts[0], scope, known, deep - 1) and is_whole(parts[1], 0, MOST_AT)
    if word == "me":
        return len(parts) == 0
    if word == "row":
        return are_xs(parts, MOST_PARTS, scope, known, deep - 1)
    if word in ("plus", "times", "less", "same"):
        return len(parts) == 2 and are_xs(parts, 2, scope, known, deep - 1)
    return False


def begins_with_text(thing):
    """Whether it is a tuple that begins with a text."""
    return isinstance(thing, tuple) and len(thing) > 0 and isinstance(thing[0], str)


def are_xs(thing, most, scope, known, deep=DEEP_X):
    """Whether it is a tuple of at most so many X."""
    if not isinstance(thing, tuple) or len(thing) > most:
        return False
    return all([is_x(part, scope, known, deep) for part in thing])


def are_deeds(thing, scope, known, ifs=MOST_IFS):
    """Whether it is a tuple of deeds, ifs at most so many within one another, behind which vars are known."""
    if not isinstance(thing, tuple):
        return False
    seen = dict(known)
    for deed in thing:
        scope.left -= 1
        if scope.left < 0 or not is_deed(deed, scope, seen, ifs):
            return False
        if deed[0] in NAMING:
            seen[deed[1]] = True
    return True


def is_deed(thing, scope, known, ifs):
    """Whether it is a deed."""
    if not begins_with_text(thing):
        return False
    word, parts = thing[0], thing[1:]
    if PARTS.get(word) != len(parts):
        return False
    if word == "if":
        return ifs > 0 and is_if(parts, scope, known, ifs - 1)
    check = CHECKS[word]
    return check(parts, scope, known)


def is_if(parts, scope, known, ifs):
    """Whether these are the parts of an if, with at most so many ifs within it."""
    x, first, other = parts
    return is_x(x, scope, known) and are_deeds(first, scope, known, ifs) and are_deeds(other, scope, known, ifs)


def is_let(parts, scope, known):
    """Whether these are the parts of a let."""
    return is_word(parts[0]) and is_x(parts[1], scope, known)


def is_set(parts, scope, known):
    """Whether these are the parts of a set."""
    return parts[0] in scope.fields and is_x(parts[1], scope, known)


def is_one(parts, scope, known):
    """Whether these are the parts of a say, or of a give."""
    return is_x(parts[0], scope, known)


def is_make(parts, scope, known):
    """Whether these are the parts of a make."""
    v, kind, xs = parts
    if not is_word(v) or not is_word(kind) or kind not in scope.sizes:
        return False
    return are_xs(xs, scope.sizes[kind], scope, known)


def is_call(parts, scope, known):
    """Whether these are the parts of a call."""
    v, x, word, xs = parts
    return is_word(v) and is_x(x, scope, known) and is_word(word) and are_xs(xs, MOST_PARTS, scope, known)


def is_when(parts, scope, known):
    """Whether these are the parts of a when."""
    x, word, xs = parts
    return is_x(x, scope, known) and is_word(word) and are_xs(xs, MOST_WHEN, scope, known)


def is_fail(parts, scope, known):
    """Whether these are the parts of a fail; it names nothing of the plan."""
    return is_word(parts[0])


def is_move(parts, scope, known):
    """Whether these are the parts of a move; it names nothing of the plan."""
    return is_house(parts[0])


CHECKS = {
    "let": is_let, "set": is_set, "say": is_one, "make": is_make, "call": is_call, "when": is_when,
    "give": is_one, "fail": is_fail, "move": is_move,
}
