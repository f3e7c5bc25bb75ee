"""Worths and plans as texts, points 27 and 28."""

from farcalls.errors import BadPlan, BadText
from farcalls.planrows import Rows, read_row
from farcalls.plans import need_plan
from farcalls.worths import is_hold


def show_worth(worth):
    """The text of a worth."""
    if worth is None:
        return "-"
    if is_hold(worth):
        return f"@{worth[1]}"
    if isinstance(worth, tuple):
        return joined(["<"] + show_worths(worth) + [">"])
    return f"'{worth}" if isinstance(worth, str) else str(worth)


def show_worths(worths):
    """The texts of some worths."""
    return [show_worth(worth) for worth in worths]


def joined(words):
    """The words, a blank between each two."""
    return " ".join(words)


def show_x(x):
    """The text of an X."""
    word = x[0]
    if word == "is":
        return show_worth(x[1])
    if word == "var":
        return x[1]
    if word == "own":
        return f".{x[1]}"
    if word == "me":
        return "*"
    if word == "at":
        return joined(["(", "at", show_x(x[1]), str(x[2]), ")"])
    return joined(["(", word] + show_xs(x[1:]) + [")"])


def show_xs(xs):
    """The texts of some X."""
    return [show_x(x) for x in xs]


def show_plan(plan):
    """The text of a plan."""
    rows = []
    for kind, fields, methods in plan:
        parts = [part for field, worth in fields for part in [field, show_worth(worth)]]
        rows.append(joined(["kind", kind, *parts]))
        for word, params, deeds in methods:
            rows.append(joined(["does", word, *params]))
            rows.extend(rows_of(deeds))
    return "\n".join(rows)


def rows_of(deeds):
    """The rows of some deeds."""
    rows = []
    for deed in deeds:
        if deed[0] == "if":
            first, other = rows_of(deed[2]), rows_of(deed[3])
            rows.extend([joined(["if", show_x(deed[1])]), *first, "else", *other, "end"])
        else:
            rows.append(row_of(deed))
    return rows


def row_of(deed):
    """The row of a deed that is no if."""
    word = deed[0]
    if word in ("fail", "move"):
        return joined([word, str(deed[1])])
    if word in ("say", "give"):
        return joined([word, show_x(deed[1])])
    if word in ("let", "set"):
        return joined([word, deed[1], show_x(deed[2])])
    if word == "make":
        return joined([word, deed[1], deed[2]] + show_xs(deed[3]))
    if word == "call":
        return joined([word, deed[1], show_x(deed[2]), deed[3]] + show_xs(deed[4]))
    return joined([word, show_x(deed[1]), deed[2]] + show_xs(deed[3]))


def read_plan(text):
    """The plan of a text."""
    if not isinstance(text, str):
        raise BadText(0)
    rows = text.split("\n")
    reading = Rows()
    for at, row in enumerate(rows):
        if not reading.takes(read_row(row)):
            raise BadText(at)
    plan = reading.whole()
    try:
        need_plan(plan)
    except BadPlan:
        raise BadText(len(rows)) from None
    return plan
