"""The rows that a desk answers, looked at by their words, numbers, worths and names alone, point 37."""

from farcalls.planrows import NotRow, Words, a_number, a_word, a_worth

MOST_MANY = 6
# the rows that are ways with one number, but for turn, which tells something
WAYS = ("take", "drop", "double", "again", "fall")


def read_ask(row):
    """What a row asks: (word, parts), the word of all ways that tell nothing `way`; None of what is no row."""
    if not isinstance(row, str):
        return None
    words = Words(row)
    try:
        word = words.one()
        if word in WAYS:
            ask = ("way", ((word, a_number(words.one())),))
        elif word == "lost":
            ask = ("way", ((word, *of_two(words)),))
        elif word in READS:
            read = READS[word]
            ask = (word, read(words))
        else:
            return None
    except NotRow:
        return None
    return ask if words.is_over() else None


def a_name(words):
    """Reads a name, whatever its signs are."""
    word = words.one()
    if word.splitlines() != [word]:
        raise NotRow()
    return word


def some_worths(words):
    """Reads worths till the row is over, however many."""
    worths = []
    while not words.is_over():
        worths.append(a_worth(words, holds=True))
    return tuple(worths)


def of_none(words):
    """Nothing."""
    return ()


def of_many(words):
    """How many houses."""
    many = a_number(words.one())
    if not 1 <= many <= MOST_MANY:
        raise NotRow()
    return (many,)


def of_one(words):
    """A number."""
    return (a_number(words.one()),)


def of_two(words):
    """Two numbers."""
    return (a_number(words.one()), a_number(words.one()))


def of_named(words):
    """A house and a name."""
    return (a_number(words.one()), a_name(words))


def of_offer(words):
    """Two houses and a name."""
    return (*of_two(words), a_name(words))


def of_make(words):
    """A house, a kind and worths."""
    return (a_number(words.one()), a_word(words), some_worths(words))


def of_call(words):
    """A house, a name, a word and worths."""
    return (a_number(words.one()), a_name(words), a_word(words), some_worths(words))


READS = {
    "world": of_many, "make": of_make, "call": of_call, "offer": of_offer, "free": of_named, "sweep": of_one,
    "mark": of_two, "clear": of_two, "turn": of_one, "step": of_one, "go": of_none, "settled": of_named,
    "things": of_one, "names": of_one, "held": of_one, "stands": of_named, "up": of_none, "net": of_none,
    "acts": of_none,
}
