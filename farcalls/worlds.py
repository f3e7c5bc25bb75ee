"""Worlds: houses, and a net of letters between them, points 32 to 34."""

from farcalls.errors import Fallen, NoHouse, NoWay, TooLong
from farcalls.houses import House
from farcalls.wires import is_number
from farcalls.worths import MOST_HOUSE, copied, is_whole

MOST = 2000
# the words of the ways of letters
LETTERS = ("take", "drop", "double")


class World:
    """Houses from 0 up, all up at first, and a net."""

    def __init__(self, plan, *, many=3):
        self._plan = copied(plan)
        self._houses = [House(plan, number) for number in range(many)]
        self._up = {number: True for number in range(many)}
        # the letters on the net by their numbers, rising: (from, to, letter); how many came there so far
        self._net = {}
        self._many = 0
        self._outer = []
        self._acts = []
        for number, house in enumerate(self._houses):
            for other in range(many, MOST_HOUSE + 1):
                house.lost(other)
                self._post(number)

    def __eq__(self, other):
        return (isinstance(other, World) and self._houses == other._houses and self._up == other._up
                and self._net == other._net and self._many == other._many
                and self._outer == other._outer and self._acts == other._acts)

    def copy(self):
        """An equal world, for itself."""
        other = World(self._plan, many=len(self._houses))
        other._houses = [house.copy() for house in self._houses]
        other._up = dict(self._up)
        other._net = dict(self._net)
        other._many = self._many
        other._outer = list(self._outer)
        other._acts = list(self._acts)
        return other

    def make(self, house, kind, *, args=()):
        """Has a house make a thing, and tells its name."""
        name = self._house(house).make(kind, args=args)
        self._outer.append(("make", name, kind, copied(args)))
        self._post(house)
        return name

    def call(self, house, to, word, *, args=()):
        """Has a house put a call, and tells its name."""
        name = self._house(house).call(to, word, args=args)
        self._outer.append(("call", name, to, word, copied(args)))
        self._post(house)
        return name

    def offer(self, house, other, name):
        """Has a house offer a name to another one."""
        self._house(house).offer(other, name)
        self._post(house)

    def let_go(self, house, name):
        """Has the outside of a house let go of a name."""
        self._house(house).let_go(name)
        self._post(house)

    def sweep(self, house):
        """Has a house sweep."""
        self._house(house).sweep()
        self._post(house)

    def mark(self, house, number):
        """Has a house begin a round."""
        self._house(house).mark(number)
        self._post(house)

    def clear(self, house, number):
        """Has a house end a round."""
        self._house(house).clear(number)
        self._post(house)

    def do(self, way):
        """Does a way; tells the act's row of a turn, else None."""
        if not self._can_be(way):
            raise NoWay(copied(way))
        word, number = way[0], way[1]
        if word in LETTERS:
            self._do_letter(word, number)
        elif word == "turn":
            return self._turn(number)
        elif word == "again":
            self._put(number, self._houses[number].again())
            self._post(number)
        elif word == "lost":
            self._houses[number].lost(way[2])
            self._post(number)
        else:
            self._fall(number)
        return None

    def ways(self):
        """The ways that go on by themselves: turns by houses, then takes by letters."""
        turns = [("turn", number) for number in self.up() if self._houses[number].line()]
        return turns + [("take", letter) for letter in self._net]

    def step(self, number):
        """Does one of the ways, counted round, and tells it; None where there is none."""
        ways = self.ways()
        if not ways:
            return None
        way = ways[number % len(ways)]
        self.do(way)
        return way

    def go(self, *, most=MOST):
        """Does the first way again and again, till all is heard; tells how many turns and takes these were."""
        many = 0
        while self._goes_on():
            if many == most:
                raise TooLong(most)
            self.do(self.ways()[0])
            many += 1
        return many

    def settled(self, house, name):
        """What a name is, or came to, as far as that house knows."""
        return self._house(house).settled(name)

    def stands(self, house, name):
        """The (kind, fields) of a thing that stands at a house."""
        return self._house(house).stands(name)

    def things(self, house):
        """The names of the things that stand at a house, rising."""
        return self._house(house).things()

    def names(self, house):
        """All names of which a house keeps anything, rising."""
        return self._house(house).names()

    def held(self, house):
        """The names that the outside of a house holds, rising."""
        return self._house(house).held()

    def line(self, house):
        """The calls in the line of a house, in order."""
        return self._house(house).line()

    def up(self):
        """The numbers of the houses that are up, rising."""
        return list(self._up)

    def net(self):
        """The letters on the net by their numbers: (letter, from, to)."""
        return [(letter, sender, to) for letter, (sender, to, _) in self._net.items()]

    def outer(self):
        """The outside's deeds so far."""
        return list(self._outer)

    def acts(self):
        """The acts so far: (house, row)."""
        return list(self._acts)

    def is_still(self):
        """Whether there is no letter, no call in a line, and nothing not known to be heard, of what is up."""
        houses = [self._houses[number] for number in self._up]
        return not self._net and all([not house.line() and house.is_heard() for house in houses])

    def house_at(self, number):
        """A copy of a house."""
        return self._house(number).copy()

    def _house(self, number):
        """The house of this number, which must be up."""
        if not is_whole(number, 0, len(self._houses) - 1):
            raise NoHouse(copied(number))
        if number not in self._up:
            raise Fallen(number)
        return self._houses[number]

    def _post(self, number):
        """Puts on the net what a house posts."""
        self._put(number, self._houses[number].post())

    def _put(self, sender, letters):
        """Puts letters on the net; those to a house that isn't up never come there."""
        for to, letter in letters:
            if to in self._up:
                self._net[self._many] = (sender, to, letter)
                self._many += 1

    def _can_be(self, way):
        """Whether it is a way, and can be now."""
        if not isinstance(way, tuple) or len(way) not in (2, 3) or not is_number(way[1]):
            return False
        word, number = way[0], way[1]
        if len(way) == 3:
            return word == "lost" and number in self._up and self._is_fallen(way[2])
        if word in LETTERS:
            return number in self._net
        if word == "turn":
            return number in self._up and len(self._houses[number].line()) > 0
        return word in ("again", "fall") and number in self._up

    def _is_fallen(self, number):
        """Whether it is the number of a house that is up no more."""
        return is_whole(number, 0, len(self._houses) - 1) and number not in self._up

    def _do_letter(self, word, number):
        """Has a letter taken, dropped or doubled."""
        sender, to, letter = self._net[number]
        if word == "double":
            self._put(sender, [(to, letter)])
            return
        del self._net[number]
        if word == "take":
            self._houses[to].take(sender, letter)
            self._post(to)

    def _turn(self, number):
        """Has a house do its turn, and tells the act's row."""
        row = self._houses[number].turn()
        self._acts.append((number, row))
        self._post(number)
        return row

    def _fall(self, number):
        """Has a house up no more."""
        del self._up[number]
        self._net = {letter: told for letter, told in self._net.items() if told[1] != number}

    def _goes_on(self):
        """Whether there is a way, be it behind what all houses tell again."""
        if not self.ways():
            for number in self.up():
                self.do(("again", number))
        return len(self.ways()) > 0
