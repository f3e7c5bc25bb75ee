"""What the tests share: wrong things of all kinds, and comparing kind for kind."""

import unittest


def deep(kind, many):
    """So many tuples, lists or dicts within one another."""
    thing = kind()
    for _ in range(many - 1):
        thing = {"a": thing} if kind is dict else kind([thing])
    return thing


def anything():
    """Things of all kinds that can be handed in; each call tells new ones."""
    return [
        None, True, False, 0, 1, -1, 7, 10 ** 29, -(10 ** 29),
        "", " ", "a", "abcdefgh", "abcdefghi", "A", "a1", "a b", "a\n", "to", "0:0", "0#0", "0:0.0", "9#9",
        (), (None,), (True,), ("a",), ("to", "0:0"), ("to", "0#0"), (("to", "0#9"),), (1, 2, 3, 4, 5, 6),
        [], [None], ["a"], ["to", "0#0"], [[]], {}, {"a": 1}, {"kind": ()}, {1: [2]},
        deep(tuple, 100), deep(list, 100), deep(dict, 100), (("a", (), ()), []), [("a", (), ())],
    ]


def exact(thing):
    """A form of it in which True isn't 1 and a list is no tuple; the order of a dict's keys is aside."""
    if isinstance(thing, dict):
        return ("dict", {key: exact(part) for key, part in thing.items()})
    if isinstance(thing, (tuple, list)):
        return (type(thing).__name__, [exact(part) for part in thing])
    return (type(thing).__name__, thing)


class Case(unittest.TestCase):
    """A test case that compares kind for kind."""

    def told(self, got, want):
        """What was told is this, kind for kind."""
        self.assertEqual(exact(got), exact(want))

    def refused(self, error, fields, function, *things, **named):
        """The call is refused by an error of this very class, with these fields."""
        with self.assertRaises(error) as caught:
            function(*things, **named)
        self.assertIs(type(caught.exception), error)
        for field, worth in fields.items():
            self.told(getattr(caught.exception, field), worth)
