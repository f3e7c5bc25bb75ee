"""The rows of a plan's text: each looked at alone, then put together, point 28."""

from farcalls.deeds import DEEP_X, MOST_AT, MOST_WHEN
from farcalls.plans import MOST_FIELDS, MOST_PARAMS, are_unlike
from farcalls.worths import MOST_DEEP, MOST_PARTS, is_count, is_house, is_name, is_word

MOST_FIGURES = 9
ENDS = ("else", "end")
HEADS = ("kind", "does")
PAIRS = ("plus", "times", "less", "same")


class NotRow(Exception):
    """The row is none that a plan's text can have."""


class Words:
    """The words of a row, read one behind the other."""

    def __init__(self, row):
        self.words = row.split(" ")
        self.at = 0

    def is_over(self):
        """Whether all words were read."""
        return self.at == len(self.words)

    def ahead(self):
        """The next word, which is yet to be read."""
        if self.is_over():
            raise NotRow()
        return self.words[self.at]

    def one(self):
        """Reads a word, whatever it is."""
        word = self.ahead()
        self.at += 1
        return word


def read_row(row):
    """What a row says, its word first; None of what is no row."""
    words = Words(row)
    try:
        word = words.one()
        if word not in READS:
            return None
        read = READS[word]
        parts = read(words)
    except NotRow:
        return None
    return (word, *parts) if words.is_over() else None


def a_word(words):
    """Reads a word of small letters."""
    word = words.one()
    if not is_word(word):
        raise NotRow()
    return word


def a_number(text):
    """The number of figures without a nought ahead, as many as a worth can have."""
    if len(text) > MOST_FIGURES or not is_count(text):
        raise NotRow()
    return int(text)


def a_worth(words, deep=MOST_DEEP, *, holds=False):
    """Reads a worth, with holds or without, tuples at most so deep within one another."""
    word = words.one()
    if word == "-":
        return None
    if word == "<":
        if deep == 0:
            raise NotRow()
        return a_tuple(words, deep - 1, holds)
    if holds and word.startswith("@"):
        return a_hold(word)
    if word.startswith("'"):
        if not is_word(word[1:]):
            raise NotRow()
        return word[1:]
    if not word.startswith("-"):
        return a_number(word)
    if word == "-0":
        raise NotRow()
    return -a_number(word[1:])


def a_hold(word):
    """The hold of a word that begins with `@`."""
    if not is_name(word[1:]):
        raise NotRow()
    return ("to", word[1:])


def a_tuple(words, deep, holds):
    """Reads the parts of a tuple, with holds or without, and its end."""
    parts = []
    while words.ahead() != ">":
        parts.append(a_worth(words, deep, holds=holds))
    words.one()
    if len(parts) > MOST_PARTS:
        raise NotRow()
    return tuple(parts)


def an_x(words, deep=DEEP_X):
    """Reads an X, at most so many within one another."""
    if deep == 0:
        raise NotRow()
    word = words.ahead()
    if word == "(":
        words.one()
        return a_compound(words, deep - 1)
    if word == "*":
        words.one()
        return ("me",)
    if is_word(word):
        return ("var", words.one())
    if word.startswith(".") and is_word(word[1:]):
        return ("own", words.one()[1:])
    return ("is", a_worth(words))


def a_compound(words, deep):
    """Reads an X of several parts, from its word to its end."""
    word = words.one()
    if word == "row":
        parts = some_xs(words, MOST_PARTS, deep)
    elif word == "at":
        x, k = an_x(words, deep), a_number(words.one())
        if k > MOST_AT:
            raise NotRow()
        parts = [x, k]
    elif word in PAIRS:
        parts = [an_x(words, deep), an_x(words, deep)]
    else:
        raise NotRow()
    if words.one() != ")":
        raise NotRow()
    return (word, *parts)


def some_xs(words, most, deep=DEEP_X):
    """Reads X as far as they go, at most so many."""
    xs = []
    while not words.is_over() and words.ahead() != ")":
        if len(xs) == most:
            raise NotRow()
        xs.append(an_x(words, deep))
    return xs


def of_kind(words):
    """The kind and its fields."""
    kind, fields = a_word(words), []
    while not words.is_over():
        fields.append((a_word(words), a_worth(words)))
    if len(fields) > MOST_FIELDS or not are_unlike([field for field, _ in fields]):
        raise NotRow()
    return (kind, tuple(fields))


def of_does(words):
    """The word and its params."""
    word, params = a_word(words), []
    while not words.is_over():
        params.append(a_word(words))
    if len(params) > MOST_PARAMS or not are_unlike(params):
        raise NotRow()
    return (word, tuple(params))


def of_named(words):
    """A var, or a field, and an X."""
    return (a_word(words), an_x(words))


def of_one(words):
    """An X."""
    return (an_x(words),)


def of_make(words):
    """A var, a kind and some X."""
    return (a_word(words), a_word(words), tuple(some_xs(words, MOST_PARTS)))


def of_call(words):
    """A var, an X, a word and some X."""
    return (a_word(words), an_x(words), a_word(words), tuple(some_xs(words, MOST_PARTS)))


def of_when(words):
    """An X, a word and some X."""
    return (an_x(words), a_word(words), tuple(some_xs(words, MOST_WHEN)))


def of_fail(words):
    """A word."""
    return (a_word(words),)


def of_move(words):
    """The number of a house."""
    house = a_number(words.one())
    if not is_house(house):
        raise NotRow()
    return (house,)


def of_none(words):
    """Nothing."""
    return ()


READS = {
    "kind": of_kind, "does": of_does, "let": of_named, "set": of_named, "say": of_one, "make": of_make,
    "call": of_call, "when": of_when, "if": of_one, "else": of_none, "end": of_none, "give": of_one,
    "fail": of_fail, "move": of_move,
}


class Rows:
    """The rows taken so far, put together to a plan."""

    def __init__(self):
        # of each kind [word, fields, methods], of each method [word, params, deeds]; of each open if
        # [X, the first deeds, the others or None, the deeds around]
        self.kinds = []
        self.ifs = []
        self.deeds = None

    def takes(self, row):
        """Whether a row, or None, can stand here; if so, it is taken."""
        if row is None or not self.can_stand(row[0]):
            return False
        if row[0] in HEADS:
            self.take_head(row)
        elif row[0] == "if":
            self.ifs.append([row[1], [], None, self.deeds])
            self.deeds = self.ifs[-1][1]
        elif row[0] == "else":
            self.deeds = []
            self.ifs[-1][2] = self.deeds
        elif row[0] == "end":
            x, first, other, self.deeds = self.ifs.pop()
            self.deeds.append(("if", x, tuple(first), tuple(other)))
        else:
            self.deeds.append(row)
        return True

    def can_stand(self, word):
        """Whether a row of this word can stand here."""
        if word == "kind":
            return not self.ifs
        if word == "does":
            return not self.ifs and len(self.kinds) > 0
        if word in ENDS:
            return len(self.ifs) > 0 and (self.ifs[-1][2] is None) == (word == "else")
        return self.deeds is not None

    def take_head(self, row):
        """Takes the row of a kind, or of a method."""
        if row[0] == "kind":
            self.kinds.append([row[1], row[2], []])
            self.deeds = None
        else:
            self.deeds = []
            self.kinds[-1][2].append([row[1], row[2], self.deeds])

    def whole(self):
        """What was taken, None amid an if; it may be no plan for all that."""
        if self.ifs:
            return None
        kinds = []
        for kind, fields, methods in self.kinds:
            done = [(word, params, tuple(deeds)) for word, params, deeds in methods]
            kinds.append((kind, fields, tuple(done)))
        return tuple(kinds)
