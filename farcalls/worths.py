"""What whole numbers, words, names, holds, worths and args are, point 2; and copies, point 3."""

MOST_WORD = 8
MOST_NAME = 400
MOST_NUMBER = 999999999
MOST_PARTS = 5
MOST_DEEP = 3
MOST_HOUSE = 5
HOUSES = ("0", "1", "2", "3", "4", "5")


def is_whole(thing, least, most):
    """Whether it is a whole number from least to most; a truth is none."""
    return isinstance(thing, int) and not isinstance(thing, bool) and least <= thing <= most


def is_house(thing):
    """Whether it is the number of a house."""
    return is_whole(thing, 0, MOST_HOUSE)


def is_word(thing):
    """Whether it is a text of one to eight small letters."""
    if not isinstance(thing, str) or len(thing) > MOST_WORD:
        return False
    return thing.isascii() and thing.isalpha() and thing.islower()


def is_count(text):
    """Whether a text is figures without a nought ahead."""
    return text.isascii() and text.isdigit() and (text == "0" or not text.startswith("0"))


def is_name(thing):
    """Whether it is a name that a call, or a thing, can have."""
    if not isinstance(thing, str) or len(thing) > MOST_NAME:
        return False
    head, sharp, made = thing.partition("#")
    if sharp and not is_count(made):
        return False
    house, colon, puts = head.partition(":")
    if house not in HOUSES:
        return False
    if not colon:
        return sharp == "#"
    return all([is_count(part) for part in puts.split(".")])


def names_thing(name):
    """Whether a name is that of a thing; else it is that of a call."""
    return "#" in name


def is_hold(thing):
    """Whether it is a hold; two words, the first of them `to`, are none."""
    return isinstance(thing, tuple) and len(thing) == 2 and thing[0] == "to" and is_name(thing[1])


def holds_promise(worth):
    """Whether a worth is the hold of a promise."""
    return is_hold(worth) and not names_thing(worth[1])


def is_worth(thing, deep=MOST_DEEP):
    """Whether it is a worth, tuples at most so deep within one another."""
    if thing is None or is_word(thing) or is_hold(thing):
        return True
    if not isinstance(thing, tuple):
        return is_whole(thing, -MOST_NUMBER, MOST_NUMBER)
    return deep > 0 and len(thing) <= MOST_PARTS and all([is_worth(part, deep - 1) for part in thing])


def is_bare(thing):
    """Whether it is a worth without holds."""
    return is_worth(thing) and holds_in(thing) == []


def are_args(thing, most=MOST_PARTS):
    """Whether it is a tuple of at most so many worths."""
    return isinstance(thing, tuple) and len(thing) <= most and all([is_worth(part) for part in thing])


def holds_in(worth):
    """The names of all holds in a worth, or in args, in their order."""
    if is_hold(worth):
        return [worth[1]]
    if not isinstance(worth, tuple):
        return []
    return [name for part in worth for name in holds_in(part)]


def copied(thing):
    """A copy for oneself of anything handed in; its tuples are plain ones."""
    if isinstance(thing, dict):
        rows = {}
        for key, part in thing.items():
            rows[key] = copied(part)
        return rows
    if not isinstance(thing, (list, tuple)):
        return thing
    parts = []
    for part in thing:
        parts.append(copied(part))
    return parts if isinstance(thing, list) else tuple(parts)
