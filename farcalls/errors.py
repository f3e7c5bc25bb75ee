"""The refusals: each is made of its fields, in the order of the interface."""


class BadPlan(ValueError):
    """What is no plan: at is the place of a kind, word that of a method, or None."""

    def __init__(self, at, word):
        self.at = at
        self.word = word


class BadArgs(ValueError):
    """What is no word, or no args, where these are asked for."""

    def __init__(self, asked):
        self.asked = asked


class BadText(ValueError):
    """A text that can't be read: row is the number of the row at fault."""

    def __init__(self, row):
        self.row = row


class NoLetter(ValueError):
    """What is no letter that can be taken."""

    def __init__(self, asked):
        self.asked = asked


class BadView(ValueError):
    """A list that is no house's view: place is that of the first wrong entry."""

    def __init__(self, place):
        self.place = place


class NoAsk(ValueError):
    """What is none of the rows that a desk answers."""

    def __init__(self, row):
        self.row = row


class NoKind(KeyError):
    """What is no kind of the plan."""

    def __init__(self, kind):
        self.kind = kind


class NoName(KeyError):
    """A name that isn't there, or that isn't held."""

    def __init__(self, name):
        self.name = name


class NoHouse(IndexError):
    """What is no number of a house that is meant here."""

    def __init__(self, house):
        self.house = house


class NoRound(RuntimeError):
    """A number that begins, or ends, no round here."""

    def __init__(self, number):
        self.number = number


class Fallen(RuntimeError):
    """A house that is up no more."""

    def __init__(self, house):
        self.house = house


class NoWorld(RuntimeError):
    """A desk has no plan, or no world, yet."""


class NoWay(LookupError):
    """What is no way that can be now."""

    def __init__(self, asked):
        self.asked = asked


class TooLong(OverflowError):
    """More ways are due than may be gone."""

    def __init__(self, most):
        self.most = most
