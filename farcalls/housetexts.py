"""Houses read from their texts, point 29."""

from farcalls.errors import BadText, BadView
from farcalls.housewords import check_of
from farcalls.plantexts import read_plan
from farcalls.views import again_of
from farcalls.worths import HOUSES, is_count

HEAD = "house "
# an entry begins so, and no row of a plan does
ENTRY = "\n<"
# what stands behind a number, and behind how many signs a text has
ENDS = (";", "'")
BARE = {"n": None, "t": True, "f": False}
# Python itself reads no numbers that are much longer
MOST_FIGURES = 4000


class NotText(Exception):
    """The text is none of a house."""


def read_house(text):
    """The house of a text."""
    if not isinstance(text, str):
        raise BadText(0)
    try:
        house = house_of(text)
    except (BadText, BadView, NotText):
        raise BadText(0) from None
    if str(house) != text:
        raise BadText(0)
    return house


def house_of(text):
    """The house of a text that may yet be written otherwise than a house's."""
    body, _, last = text.rpartition("\n")
    if last != check_of(body):
        raise NotText()
    first, _, rest = body.partition("\n")
    number = first.removeprefix(HEAD)
    if number not in HOUSES:
        raise NotText()
    plan, sign, entries = rest.partition(ENTRY)
    return again_of(read_plan(plan), int(number), read_entries(f"{sign}{entries}"))


def read_entries(text):
    """The entries that stand one behind the other, each behind a line end."""
    reading = Reading(text)
    while not reading.is_over():
        reading.past("\n")
        reading.read_one()
    return reading.found[0]


class Reading:
    """A text that is read, and what was found in it."""

    def __init__(self, text):
        self.text = text
        self.at = 0
        # what was found so far, and in each open tuple, the last one innermost
        self.found = [[]]

    def is_over(self):
        """Whether all was read."""
        return self.at == len(self.text)

    def past(self, sign):
        """Goes past a sign, which must stand here."""
        if not self.text.startswith(sign, self.at):
            raise NotText()
        self.at += 1

    def read_one(self):
        """Reads one thing; tuples in it, however deep, stand in a list while they are open."""
        depth = len(self.found)
        self.read_part()
        while len(self.found) > depth:
            self.read_part()

    def read_part(self):
        """Reads a sign that begins or ends a tuple, or a thing that is none."""
        sign = self.text[self.at:self.at + 1]
        if sign in BARE:
            self.past(sign)
            self.has(BARE[sign])
        elif sign == "<":
            self.past(sign)
            self.found.append([])
        elif sign == ">":
            self.past(sign)
            self.close()
        else:
            self.read_counted()

    def has(self, thing):
        """Has found a part of the innermost tuple."""
        self.found[-1].append(thing)

    def close(self):
        """Has found the end of the innermost tuple."""
        if len(self.found) == 1:
            raise NotText()
        parts = self.found.pop()
        self.has(tuple(parts))

    def read_counted(self):
        """Reads a number, or a text of so many signs."""
        figures = self.figures()
        if self.text.startswith(";", self.at):
            self.past(";")
            self.has(number_of(figures))
        else:
            self.past("'")
            end = self.at + number_of(figures)
            if not self.at <= end <= len(self.text):
                raise NotText()
            self.has(self.text[self.at:end])
            self.at = end

    def figures(self):
        """Reads the figures of a number, and what stands ahead of them."""
        start = self.at
        while not self.is_over() and self.text[self.at] not in ENDS:
            self.at += 1
        return self.text[start:self.at]


def number_of(figures):
    """The number of some figures."""
    count = figures.removeprefix("-")
    if len(count) > MOST_FIGURES or not is_count(count):
        raise NotText()
    return int(figures)
