"""A house's text, point 29: its plan, its number, and all that it was told."""

from farcalls.plantexts import show_plan


def house_text(plan, number, view):
    """The text of a house with this view."""
    # what a house told hangs on what it was told alone, so that it need not stand there
    deeds = [show((word, things)) for word, things, _ in view]
    body = "\n".join([f"house {number}", show_plan(plan), *deeds])
    return f"{body}\n{check_of(body)}"


def show(thing):
    """The text of what can stand in a view, one for each, kind for kind."""
    # what each begins with is told by its first sign, and where it ends by itself: nothing need stand between two
    if isinstance(thing, tuple):
        parts = "".join([show(part) for part in thing])
        return f"<{parts}>"
    if isinstance(thing, str):
        return f"{len(thing)}'{thing}"
    if isinstance(thing, bool):
        return "t" if thing else "f"
    return "n" if thing is None else f"{thing};"


def check_of(body):
    """A row that is another one for each text in which one sign is put in, left out or another one."""
    total = sum([ord(sign) for sign in body])
    return f"check {len(body)} {total}"
