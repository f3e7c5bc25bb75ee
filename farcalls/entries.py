"""What a house keeps of each name that it knows, and of each call that is there, points 13, 14 and 23.

The houses that know a name form a tree. Its root is where the thing stands, or where the call is or acted; each other
house knows the next one on the way there. A house that tells the name to another one counts this; the other one gives
the counts back when it forgets the name, or at once where it has another way to the root already.
"""


class Entry:
    """What a house keeps of a name."""

    def __init__(self):
        # the next house on the way to the root: None at the root, and where the way is lost
        self.parent = None
        # how many counts that house has for this one, and how many each other one holds of this house
        self.got = 0
        self.out = {}
        # at the root: of each house the number of the last call that was let in; the calls that wait for elder ones
        self.table = {}
        self.late = []
        # the open calls that this house put on the name: (number, call), rising
        self.sent = []
        # the last round that marked it
        self.seen = 0

    def copy_to(self, other):
        """Sets another one to the same."""
        other.parent = self.parent
        other.got = self.got
        other.out = dict(self.out)
        other.table = dict(self.table)
        other.late = list(self.late)
        other.sent = list(self.sent)
        other.seen = self.seen


class Place(Entry):
    """What a house keeps of a thing."""

    def __init__(self):
        Entry.__init__(self)
        # the number of its last stay here: the first one is where it was made, 0 where it never stood here
        self.stay = 0
        # the last stay that is known here: its house, None where that isn't told or was asked in vain; and its number
        self.spot = None
        self.spotted = 0
        # whether the house where it was made was asked for it in vain
        self.vain = False

    def twin(self):
        """One that goes on alike, for itself."""
        other = Place()
        self.copy_to(other)
        other.stay = self.stay
        other.spot = self.spot
        other.spotted = self.spotted
        other.vain = self.vain
        return other


class Promise(Entry):
    """What a house keeps of a promise."""

    def __init__(self):
        Entry.__init__(self)
        # what it came to, as far as that is known here; whether the way to where it is settled is lost;
        # the houses that are to be told; whether this one will be
        self.outcome = None
        self.cut = False
        self.tells = []
        self.asked = False
        # what goes on here when that is known: ("call", call), ("when", call), ("hang", call), in order
        self.waits = []
        # while it is open: whether its call is or was here, the names that it was put on here,
        # the houses from which it came, on what, and the promise that it hangs on
        self.way = False
        self.on = {}
        self.came = {}
        self.hang = None

    def twin(self):
        """One that goes on alike, for itself."""
        other = Promise()
        self.copy_to(other)
        other.outcome = self.outcome
        other.cut = self.cut
        other.tells = list(self.tells)
        other.asked = self.asked
        other.waits = list(self.waits)
        other.way = self.way
        other.on = dict(self.on)
        other.came = dict(self.came)
        other.hang = self.hang
        return other


class Asking:
    """A call, or a when, that is here and hasn't acted: what it asks of whom."""

    def __init__(self, to, word, worths, stamp):
        self.to = to
        self.word = word
        self.worths = worths
        # (house, number, number of the elder call or None) of a call that was put, but not let in yet
        self.stamp = stamp

    def twin(self):
        """One that goes on alike, for itself."""
        return Asking(self.to, self.word, self.worths, self.stamp)
