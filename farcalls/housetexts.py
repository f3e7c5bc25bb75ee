"""Houses read from their texts, point 29."""

from farcalls.errors import BadText
from farcalls.houses import House
from farcalls.housewords import check_of
from farcalls.plantexts import read_plan
from farcalls.views import does
from farcalls.worths import HOUSES, is_count

HEAD = "house "
# a deed begins so, and no row of a plan does
DEED = "\n<"
# what stands behind a number, and behind how many signs a text has
ENDS = (";", "'")
BARE = {"n": None, "t": True, "f": False}
# Python itself reads no numbers that are much longer
MOST_FIGURES = 4000


class NotText(Exception):
    """The text is none of a house."""


def read_house(text):
    """The house of a text."""
    if not isinstance(text, str):
        raise BadText(0)
    try:
        house = house_of(text)
    except (BadText, NotText):
        raise BadText(0) from None
    # what was read may be written otherwise than a house writes it
    if str(house) != text:
        raise BadText(0)
    return house


def house_of(text):
    """The house that does what a text tells."""
    body, _, last = text.rpartition("\n")
    if last != check_of(body):
        raise NotText()
    first, _, rest = body.partition("\n")
    number = first.removeprefix(HEAD)
    if number not in HOUSES:
        raise NotText()
    plan, sign, deeds = rest.partition(DEED)
    house = House(read_plan(plan), int(number))
    for deed in things_of(f"{sign}{deeds}"):
        if not isinstance(deed, tuple) or len(deed) != 2 or not does(house, *deed):
            raise NotText()
    return house


def things_of(text):
    """The things that stand in a text, one behind the other, line ends aside."""
    # tuples, however deep, stand in a list while they are open, the innermost one last
    found = [[]]
    at = 0
    while at < len(text):
        sign = text[at]
        at += 1
        if sign == "<":
            found.append([])
        elif sign == ">" and len(found) > 1:
            parts = found.pop()
            found[-1].append(tuple(parts))
        elif sign in BARE:
            found[-1].append(BARE[sign])
        elif sign != "\n":
            thing, at = counted(text, at - 1)
            found[-1].append(thing)
    # what stands in tuples that are still open is left out: no house writes such
    return found[0]


def counted(text, at):
    """A number, or a text of so many signs, and the place behind it."""
    end = at
    while end < len(text) and text[end] not in ENDS:
        end += 1
    figures = text[at:end]
    if end == len(text) or end - at > MOST_FIGURES or not is_count(figures.removeprefix("-")):
        raise NotText()
    start = end + 1
    if text[end] == ";":
        return (int(figures), start)
    last = start + int(figures)
    if not start <= last <= len(text):
        raise NotText()
    return (text[start:last], last)
