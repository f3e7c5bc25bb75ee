"""Wires: point 10."""

import random
import unittest

from farcalls.errors import NoLetter
from farcalls.wires import Wire
from helpers import Case, anything


def rows(*numbers):
    """Rows, one for each number."""
    return tuple((number,) for number in numbers)


class Wires(Case):
    def pair(self, many):
        """Two ends, at one of which so many rows were put."""
        one, other = Wire(), Wire()
        for number in range(many):
            one.put((number,))
        return one, other

    def test_new_one(self):
        wire = Wire()
        self.told(wire.letter(), ("rows", 0, (), 0))
        self.told(wire.unheard(), [])
        self.told(wire.heard(), 0)
        self.assertEqual(len(wire), 0)

    def test_rows_have_numbers(self):
        wire = Wire()
        self.told([wire.put(("a",)), wire.put(()), wire.put(("a",))], [0, 1, 2])
        self.told(wire.letter(), ("rows", 0, (("a",), (), ("a",)), 0))
        self.told(wire.unheard(), [("a",), (), ("a",)])
        self.assertEqual(len(wire), 3)

    def test_each_row_is_taken_once(self):
        one, other = self.pair(2)
        letter = one.letter()
        self.told(other.take(letter), [(0,), (1,)])
        self.told(other.take(letter), [])
        one.put((2,))
        self.told(other.take(one.letter()), [(2,)])
        self.told(other.heard(), 3)
        self.told(other.take(letter), [])
        self.told(other.letter(), ("rows", 0, (), 3))

    def test_letters_overtake_one_another(self):
        one, other = self.pair(1)
        early = one.letter()
        one.put((1,))
        self.told(other.take(one.letter()), [(0,), (1,)])
        self.told(other.take(early), [])
        self.told(other.heard(), 2)

    def test_what_is_heard_is_told_no_more(self):
        one, other = self.pair(3)
        elder = other.letter()
        other.take(("rows", 0, rows(0, 1), 0))
        self.told(one.take(other.letter()), [])
        self.told(one.unheard(), [(2,)])
        self.assertEqual(len(one), 1)
        self.told(one.letter(), ("rows", 2, rows(2), 0))
        one.take(elder)
        self.told(one.letter(), ("rows", 2, rows(2), 0))
        self.told(one.put((3,)), 3)
        one.take(("rows", 0, (), 4))
        self.told(one.letter(), ("rows", 4, (), 0))
        self.assertEqual(len(one), 0)
        self.told(one.put((4,)), 4)

    def test_both_ways(self):
        one, other = self.pair(1)
        other.put(("x",))
        other.take(one.letter())
        self.told(one.take(other.letter()), [("x",)])
        self.told(one.letter(), ("rows", 1, (), 1))
        self.told(other.take(one.letter()), [])
        self.told(other.unheard(), [])

    def test_any_letter_that_is_not_refused_is_taken(self):
        wire = Wire()
        self.told(wire.take(("rows", 0, rows(7, 8), 0)), [(7,), (8,)])
        self.told(wire.take(("rows", 1, rows(1, 2, 3), 0)), [(2,), (3,)])
        self.told(wire.take(("rows", 4, rows(9), 0)), [(9,)])
        self.told(wire.take(("rows", 0, rows(5), 0)), [])
        self.told(wire.take(("rows", 5, (), 0)), [])
        self.told(wire.heard(), 5)

    def test_letters_of_anything(self):
        wire = Wire()
        for thing in anything():
            with self.subTest(thing):
                self.refused(NoLetter, {"asked": thing}, wire.take, thing)
                for letter in ((thing, 0, (), 0), ("rows", thing, (), 0), ("rows", 0, thing, 0), ("rows", 0, (), thing),
                               ("rows", 0, (thing,), 0), ("rows", 0, ((), thing), 0)):
                    if good(letter):
                        self.assertIsInstance(Wire().take(letter), list)
                    else:
                        self.refused(NoLetter, {"asked": letter}, wire.take, letter)
        for letter in (("rows", 0, ()), ("rows", 0, (), 0, 0), ["rows", 0, (), 0], ("row", 0, (), 0), ("rows", 0, [], 0),
                       ("rows", -1, (), 0), ("rows", 0, (), -1), ("rows", False, (), 0), ("rows", 0, (), False),
                       ("rows", None, (), 0), ("rows", 0, ("a",), 0), ("rows", 0, ([],), 0), (["rows"], 0, (), 0)):
            self.refused(NoLetter, {"asked": letter}, wire.take, letter)
        self.told(wire.letter(), ("rows", 0, (), 0))

    def test_letters_ahead_of_what_was_taken_or_put(self):
        wire = Wire()
        wire.put((0,))
        for letter in (("rows", 1, (), 0), ("rows", 1, rows(1), 0), ("rows", 0, rows(5), 2), ("rows", 10 ** 29, (), 0)):
            self.refused(NoLetter, {"asked": letter}, wire.take, letter)
        self.told(wire.heard(), 0)
        self.told(wire.unheard(), [(0,)])
        self.told(wire.take(("rows", 0, rows(5), 1)), [(5,)])
        self.told(wire.take(("rows", 1, rows(6), 1)), [(6,)])
        self.refused(NoLetter, {"asked": ("rows", 3, (), 1)}, wire.take, ("rows", 3, (), 1))

    def test_equal(self):
        one, other = Wire(), Wire()
        self.assertTrue(one == other)
        one.put((1,))
        self.assertFalse(one == other)
        other.put((2,))
        self.assertFalse(one == other)
        third = Wire()
        third.put((1,))
        self.assertTrue(one == third)
        third.take(("rows", 0, rows(5), 0))
        self.assertFalse(one == third)
        one.take(("rows", 0, rows(6), 0))
        self.assertTrue(one == third)
        one.take(("rows", 0, (), 1))
        self.assertFalse(one == third)
        self.assertFalse(one == Wire())
        for thing in anything() + [("rows", 0, (), 0)]:
            self.assertFalse(Wire() == thing)
            self.assertTrue(Wire() != thing)

    def test_how_many_were_put_counts(self):
        one, other = Wire(), Wire()
        one.put((1,))
        one.take(("rows", 0, (), 1))
        self.assertFalse(one == other)

    def test_what_is_told_is_the_asker_s_own(self):
        wire, row = Wire(), ([1], {"a": [2]})
        wire.put(row)
        row[0].append(5)
        wire.letter()[2][0][0].append(6)
        wire.unheard()[0][1]["a"].append(7)
        wire.unheard().append(())
        self.told(wire.unheard(), [([1], {"a": [2]})])
        letter = ("rows", 0, (([1],),), 0)
        told = Wire().take(letter)
        told[0][0].append(2)
        self.told(letter, ("rows", 0, (([1],),), 0))

    def test_tuples_told_are_plain(self):
        class Odd(tuple):
            """A kind made from tuple."""

        wire = Wire()
        wire.put(Odd([Odd([1]), "a"]))
        self.told(wire.letter()[2], (((1,), "a"),))
        self.told(wire.unheard(), [((1,), "a")])
        self.told(wire.take(Odd(["rows", 0, Odd([Odd([2])]), 0])), [(2,)])

    def test_drawn_letters(self):
        for seed in range(20):
            draw = random.Random(seed)
            ends, put, got, net = [Wire(), Wire()], [0, 0], [[], []], []
            for _ in range(300):
                end, what = draw.randrange(2), draw.random()
                if what < 0.3:
                    self.told(ends[end].put((put[end],)), put[end])
                    put[end] += 1
                elif what < 0.6:
                    net.append((1 - end, ends[end].letter()))
                elif net:
                    to, letter = draw.choice(net)
                    got[to].extend(ends[to].take(letter))
                    self.assertLessEqual(len(got[to]), put[1 - to])
            for end in (0, 1, 0):
                got[1 - end].extend(ends[1 - end].take(ends[end].letter()))
            for end in (0, 1):
                self.told(got[1 - end], list(rows(*range(put[end]))))
            self.assertEqual(len(ends[0]), 0)


def good(letter):
    """Whether a letter of four parts is one for a new wire."""
    word, first, told, heard = letter
    if word != "rows" or type(first) is not int or type(heard) is not int or first != 0 or heard != 0:
        return False
    return isinstance(told, tuple) and all(isinstance(row, tuple) for row in told)


if __name__ == "__main__":
    unittest.main()
