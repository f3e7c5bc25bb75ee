"""Wires: rows put at one end are taken at the other once, in order, whatever becomes of letters, point 10."""

from farcalls.errors import NoLetter
from farcalls.worths import copied

WORD = "rows"


class Wire:
    """One end of a pair."""

    def __init__(self):
        # the rows that aren't known to be heard, each with whether it never changes;
        # how many were put, and how many of the other end's were taken
        self._rows = []
        self._many = 0
        self._taken = 0

    def __len__(self):
        return len(self._rows)

    def __eq__(self, other):
        return (isinstance(other, Wire) and self._rows == other._rows and self._many == other._many
                and self._taken == other._taken)

    def put(self, row):
        """Puts a row, and tells its number."""
        self._rows.append((copied(row), is_fixed(row)))
        self._many += 1
        return self._many - 1

    def letter(self):
        """The letter that tells all that isn't known to be heard."""
        return (WORD, self._many - len(self._rows), tuple(self.unheard()), self._taken)

    def take(self, letter):
        """Takes a letter; tells the list of its rows that weren't taken yet."""
        if not self._can_take(letter):
            raise NoLetter(copied(letter))
        _, first, rows, heard = letter
        known = self._many - len(self._rows)
        if heard > known:
            self._rows = self._rows[heard - known:]
        told = [copied(row) for row in rows[self._taken - first:]]
        self._taken += len(told)
        return told

    def heard(self):
        """How many rows of the other end were taken here."""
        return self._taken

    def unheard(self):
        """The rows that aren't known to be heard."""
        # rows that never change need no copies: letters by the hundred tell them again
        return [row if fixed else copied(row) for row, fixed in self._rows]

    def copy(self):
        """A wire that goes on alike, for itself."""
        other = Wire()
        other._rows = list(self._rows)
        other._many = self._many
        other._taken = self._taken
        return other

    def _can_take(self, letter):
        if not isinstance(letter, tuple) or len(letter) != 4:
            return False
        word, first, rows, heard = letter
        if word != WORD or not is_number(first) or not is_number(heard):
            return False
        if not isinstance(rows, tuple) or not all([isinstance(row, tuple) for row in rows]):
            return False
        return first <= self._taken and heard <= self._many


def is_number(thing):
    """Whether it is a whole number from 0 on."""
    return isinstance(thing, int) and not isinstance(thing, bool) and thing >= 0


def is_fixed(thing):
    """Whether nothing in it can be changed."""
    if isinstance(thing, tuple):
        return all([is_fixed(part) for part in thing])
    return not isinstance(thing, (list, dict))
