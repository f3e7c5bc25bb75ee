"""Plans: points 2, 3, 5 and 6."""

import copy
import unittest

from farcalls.errors import BadPlan, NoKind
from farcalls.plans import fields_of, need_plan, words_of
from helpers import Case, anything, deep, exact

ONE = ("is", 1)
BOTTOM = 999999999

# every kind of deed and of X, and all that may be empty
WHOLE = (
    ("a", (), ()),
    ("cell", (("have", None), ("more", (1, ("a",)))), (
        ("get", (), ()),
        ("all", ("p", "q"), (
            ("let", "v", ("var", "p")),
            ("set", "have", ("own", "more")),
            ("say", ("me",)),
            ("make", "t", "cell", (("var", "v"), ("row",))),
            ("make", "u", "a", ()),
            ("call", "c", ("var", "t"), "get", (("plus", ONE, ONE), ("times", ONE, ONE))),
            ("when", ("var", "c"), "get", (("less", ONE, ONE), ("same", ONE, ONE))),
            ("if", ("at", ("var", "q"), 4), (("give", ("row", ONE, ("is", "a"))),), (("fail", "sad"),)),
            ("move", 5),
            ("if", ("is", None), (), ()),
        )),
    )),
)


def method(*deeds, params=()):
    """A plan whose kind b, behind another one, has a method m of these deeds behind another one."""
    return (("a", (("one", 1), ("two", 2)), ()),
            ("b", (("f", 0),), (("n", ("x",), (("give", ("var", "x")),)), ("m", params, deeds))))


def paths(thing, path=()):
    """The ways to each part of nested tuples."""
    yield path
    if isinstance(thing, tuple):
        for k, part in enumerate(thing):
            yield from paths(part, path + (k,))


def part_at(thing, path):
    """The part at the end of such a way."""
    for k in path:
        thing = thing[k]
    return thing


def with_part(thing, path, part):
    """The same with another part there."""
    if not path:
        return part
    return thing[:path[0]] + (with_part(thing[path[0]], path[1:], part),) + thing[path[0] + 1:]


def nested_worth(many, core):
    """So many tuples within one another, about a core."""
    for _ in range(many):
        core = (core,)
    return core


class Good(Case):
    def good(self, plan):
        before = copy.deepcopy(exact(plan))
        self.assertIsNone(need_plan(plan))
        self.assertEqual(exact(plan), before)

    def bad(self, plan, at, word):
        self.refused(BadPlan, {"at": at, "word": word}, need_plan, plan)

    def fits(self, *deeds, params=()):
        self.good(method(*deeds, params=params))

    def odd(self, *deeds, params=()):
        self.bad(method(*deeds, params=params), 1, "m")


class Shapes(Good):
    def test_good_ones(self):
        self.good(WHOLE)
        self.good((("a", (), ()),))
        self.good(tuple((word, (), ()) for word in ("a", "b", "c", "d", "e", "abcdefgh")))
        self.fits()

    def test_what_is_no_tuple_of_one_to_six(self):
        for thing in anything():
            if not (isinstance(thing, tuple) and 1 <= len(thing) <= 6):
                with self.subTest(thing):
                    self.bad(thing, None, None)
        self.bad([("a", (), ())], None, None)
        self.bad(tuple((word, (), ()) for word in "abcdefg"), None, None)

    def test_of_anything_in_a_tuple(self):
        for thing in anything():
            with self.subTest(thing):
                self.bad((thing,), 0, None)
                self.bad((("a", (), ()), thing), 1, None)

    def test_each_part_replaced_by_what_stands_nowhere(self):
        for path in paths(WHOLE):
            for wrong in (True, False, 10 ** 29, -(10 ** 29), "", "A", "abcdefghi", "0:0", [], ["a"], {}, {"a": 1}):
                at = path[0] if path else None
                deep_in = len(path) > 4 and path[1] == 2 and path[3] == 2
                word = WHOLE[at][2][path[2]][0] if deep_in else None
                with self.subTest(path=path, wrong=wrong):
                    self.bad(with_part(WHOLE, path, wrong), at, word)

    def test_each_tuple_as_a_list(self):
        for path in paths(WHOLE):
            part = part_at(WHOLE, path)
            if isinstance(part, tuple):
                at = path[0] if path else None
                deep_in = len(path) > 4 and path[1] == 2 and path[3] == 2
                with self.subTest(path=path):
                    self.bad(with_part(WHOLE, path, list(part)), at, WHOLE[at][2][path[2]][0] if deep_in else None)

    def test_parts_too_few_or_too_many(self):
        for kind in ((), ("a",), ("a", ()), ("a", (), (), ())):
            self.bad((kind,), 0, None)
        for field in ((), ("f",), ("f", 1, 1)):
            self.bad((("a", (field,), ()),), 0, None)
        for m in ((), ("m",), ("m", ()), ("m", (), (), ())):
            self.bad((("a", (), (m,)),), 0, None)

    def test_how_many_fields_methods_and_params(self):
        words = ("a", "b", "c", "d", "e", "f", "g", "h", "i")
        for many in (4, 5):
            self.good((("a", tuple((word, 0) for word in words[:many]), ()),))
            self.good((("a", (), (("m", words[:many], ()),)),))
        self.bad((("a", tuple((word, 0) for word in words[:6]), ()),), 0, None)
        self.bad((("a", (), (("m", words[:6], ()),)),), 0, None)
        self.good((("a", (), tuple((word, (), ()) for word in words[:8])),))
        self.bad((("a", (), tuple((word, (), ()) for word in words[:9])),), 0, None)

    def test_no_two_of_one_word(self):
        self.bad((("a", (), ()), ("b", (), ()), ("a", (), ())), 2, None)
        self.bad((("a", (("f", 1), ("g", 1), ("f", 2)), ()),), 0, None)
        self.bad((("a", (), (("m", (), ()), ("n", (), ()), ("m", ("x",), ()))),), 0, None)
        self.bad((("a", (), (("m", ("x", "y", "x"), ()),)),), 0, None)

    def test_else_a_word_may_come_again(self):
        self.good((("a", (("a", "a"),), (("a", ("a",), (("let", "a", ("var", "a")), ("set", "a", ("own", "a")))),)),
                   ("b", (("a", 1),), (("a", ("a",), ()), ("b", ("a",), ())))))
        self.fits(("let", "v", ONE), ("let", "v", ONE), ("make", "v", "b", ()), params=("v",))

    def test_words(self):
        for word in ("a", "z", "to", "abcdefgh", "zzzzzzzz"):
            self.good(((word, ((word, word),), ((word, (word,), (("fail", word),)),)),))
        for word in ("", "abcdefghi", "A", "aB", "a1", "1", "a_b", "a b", " a", "a ", "a\n", "`", "{", "-", "a.b"):
            with self.subTest(word):
                self.bad(((word, (), ()),), 0, None)
                self.bad((("a", ((word, 1),), ()),), 0, None)
                self.bad((("a", (("f", word),), ()),), 0, None)
                self.bad((("a", (), ((word, (), ()),)),), 0, None)
                self.bad((("a", (), (("m", (word,), ()),)),), 0, None)
                self.odd(("fail", word))


class First(Good):
    """Which of several faults goes first."""

    def test_kinds_ahead_of_deeds(self):
        wrong_deeds = ("a", (), (("m", (), (None,)),))
        wrong_kind = ("b", [], ())
        self.bad((wrong_deeds, wrong_kind), 1, None)
        self.bad((wrong_kind, wrong_deeds), 0, None)
        self.bad((wrong_deeds, wrong_deeds), 1, None)
        self.bad((wrong_deeds, ("c", (), ())), 0, "m")

    def test_first_kind(self):
        self.bad((("a", (), ()), ("A", (), ()), ("a", (), ())), 1, None)
        self.bad((("a", (), ()), ("a", (), ()), ("A", (), ())), 1, None)

    def test_first_kind_and_its_first_method(self):
        good, odd = ("m", (), ()), (("fail", "ODD"),)
        self.bad((("a", (), (good,)), ("b", (), (good, ("x", (), odd), ("d", (), odd))), ("c", (), (("m", (), odd),))),
                 1, "x")

    def test_deeds_that_are_no_tuple_are_the_kind_s_fault(self):
        for thing in anything():
            if not isinstance(thing, tuple):
                with self.subTest(thing):
                    self.bad((("a", (), (("m", (), (None,)),)), ("b", (), (("m", (), thing),))), 1, None)
            elif thing:
                with self.subTest(thing):
                    self.bad((("a", (), (("m", (), thing),)),), 0, "m")


class Worths(Good):
    """The worths that stand in plans."""

    def good_worth(self, worth):
        with self.subTest(worth):
            self.good((("a", (("f", worth),), ()),))
            self.fits(("give", ("is", worth)))

    def bad_worth(self, worth):
        with self.subTest(worth):
            self.bad((("a", (("f", worth),), ()),), 0, None)
            self.odd(("give", ("is", worth)))

    def test_good_ones(self):
        for worth in (None, 0, 1, -1, BOTTOM, -BOTTOM, "a", "to", (), (1, 2, 3, 4, 5), ("to", "a"), ("to",), (None, None)):
            self.good_worth(worth)

    def test_numbers_too_great(self):
        for worth in (BOTTOM + 1, -BOTTOM - 1, 10 ** 29, -(10 ** 29), True, False):
            self.bad_worth(worth)
            self.bad_worth((worth,))

    def test_tuples_of_at_most_five(self):
        self.bad_worth((1, 2, 3, 4, 5, 6))
        self.bad_worth(((1, 2, 3, 4, 5, 6),))
        self.bad_worth((None,) * 1000)

    def test_tuples_at_most_three_within_one_another(self):
        self.good_worth(nested_worth(3, 1))
        self.good_worth(((((),)),))
        self.good_worth((1, (2, (3, 4)), ((5,), 6)))
        self.bad_worth(nested_worth(4, 1))
        self.bad_worth((((()),), ((((),),),)))
        self.bad_worth(deep(tuple, 4))
        self.good_worth(deep(tuple, 3))
        self.bad_worth(deep(tuple, 100))

    def test_no_holds(self):
        for name in ("0:0", "5#12", "0:1.2#3"):
            self.bad_worth(("to", name))
            self.bad_worth((1, (2, ("to", name))))

    def test_of_anything(self):
        good = [exact(worth) for worth in (None, 0, 1, -1, 7, "a", "abcdefgh", "to", (), (None,), ("a",))]
        for thing in anything():
            if exact(thing) not in good:
                self.bad_worth(thing)


class Deeds(Good):
    SAMPLES = (
        ("let", "v", ONE), ("set", "f", ONE), ("say", ONE), ("make", "v", "a", (ONE,)),
        ("call", "v", ONE, "w", (ONE,)), ("when", ONE, "w", (ONE,)), ("if", ONE, (), ()), ("give", ONE),
        ("fail", "w"), ("move", 0),
    )

    def test_good_ones(self):
        for deed in self.SAMPLES:
            with self.subTest(deed):
                self.fits(deed)
                self.fits(("if", ONE, (deed,), ()))
                self.fits(("if", ONE, (), (deed,)))

    def test_parts_too_few_or_too_many(self):
        for deed in self.SAMPLES:
            with self.subTest(deed):
                for wrong in (deed[:-1], deed + (ONE,), deed + ((),), deed[:1], deed[1:], ()):
                    self.odd(wrong)

    def test_unknown_words(self):
        for deed in self.SAMPLES:
            for word in ("is", "LET", "do", "lets", "", None, 0, True, (), [], {}):
                self.odd((word,) + deed[1:])

    def test_wrong_ones_behind_good_ones_and_in_ifs(self):
        for thing in anything():
            with self.subTest(thing):
                self.odd(("give", ONE), thing)
                self.odd(("if", ONE, (thing,), ()))
                self.odd(("if", ONE, (), (("give", ONE), thing)))

    def test_of_anything_in_each_place(self):
        for deed in self.SAMPLES:
            for k in range(1, len(deed)):
                for thing in anything():
                    with self.subTest(deed=deed, k=k, thing=thing):
                        self.place(deed, k, thing)

    def place(self, deed, k, thing):
        new = deed[:k] + (thing,) + deed[k + 1:]
        word = isinstance(thing, str) and thing in ("a", "abcdefgh", "to")
        if deed[0] == "move":
            good = thing in (0, 1) and not isinstance(thing, bool)
        elif deed[0] == "make" and k == 2:
            good = thing == "a"
        elif isinstance(deed[k], str):
            good = word and not deed[0] == "set"
        else:
            good = thing == () and deed[k] != ONE
        if good:
            self.fits(new)
        else:
            self.odd(new)

    def test_fields_of_the_kind(self):
        self.fits(("set", "f", ("own", "f")))
        for field in ("one", "two", "g", "b", "m"):
            self.odd(("set", field, ONE))
            self.odd(("give", ("own", field)))

    def test_make(self):
        self.fits(("make", "v", "a", ()))
        self.fits(("make", "v", "a", (ONE, ONE)))
        self.fits(("make", "v", "b", (ONE,)))
        self.odd(("make", "v", "a", (ONE, ONE, ONE)))
        self.odd(("make", "v", "b", (ONE, ONE)))
        self.odd(("make", "v", "c", ()))
        self.odd(("make", "v", "f", ()))

    def test_make_of_a_kind_that_comes_later(self):
        self.good((("a", (), (("m", (), (("make", "v", "b", (ONE, ONE, ONE, ONE, ONE)),)),)),
                   ("b", tuple((word, 0) for word in "abcde"), ())))

    def test_how_many_args(self):
        self.fits(("call", "v", ONE, "w", (ONE,) * 5))
        self.odd(("call", "v", ONE, "w", (ONE,) * 6))
        self.fits(("when", ONE, "w", (ONE,) * 3))
        self.odd(("when", ONE, "w", (ONE,) * 4))

    def test_houses(self):
        for house in range(6):
            self.fits(("move", house))
        for house in (-1, 6, 10 ** 29, True, False, None, "0", (0,), [0]):
            self.odd(("move", house))

    def test_at_most_forty_deeds(self):
        say = ("say", ONE)
        self.fits(*(say,) * 40)
        self.odd(*(say,) * 41)
        self.fits(("if", ONE, (say,) * 20, (say,) * 19))
        self.odd(("if", ONE, (say,) * 20, (say,) * 20))
        self.odd(("if", ONE, (say,) * 39, ()), say)
        self.odd(say, ("if", ONE, (), (say,) * 39))
        self.fits(("if", ONE, (("if", ONE, (say,) * 10, ()),) * 3, (say,) * 6))
        self.odd(("if", ONE, (("if", ONE, (say,) * 10, ()),) * 3, (say,) * 7))

    def test_forty_in_each_method(self):
        say = (("say", ONE),) * 40
        self.good((("a", (), (("m", (), say), ("n", (), say))), ("b", (), (("m", (), say),))))

    def test_ifs_at_most_three_within_one_another(self):
        for first in (True, False):
            deeds = (("say", ONE),)
            for many in range(1, 6):
                inner = ("if", ONE, deeds, ()) if first else ("if", ONE, (), deeds)
                if many <= 3:
                    self.fits(inner)
                    self.fits(inner, inner)
                else:
                    self.odd(inner)
                deeds = (inner,)
        self.odd(deep(tuple, 100))


class Xs(Good):
    SAMPLES = (("is", 1), ("var", "p"), ("own", "f"), ("me",), ("plus", ONE, ONE), ("times", ONE, ONE),
               ("less", ONE, ONE), ("same", ONE, ONE), ("row", ONE, ONE, ONE, ONE, ONE), ("at", ONE, 0))

    def in_all_places(self, x):
        return (("let", "v", x), ("set", "f", x), ("say", x), ("make", "v", "a", (ONE, x)),
                ("call", "v", x, "w", ()), ("call", "v", ONE, "w", (ONE, x)), ("when", x, "w", ()),
                ("when", ONE, "w", (ONE, x)), ("if", x, (), ()), ("give", x))

    def good_x(self, x):
        for deed in self.in_all_places(x):
            with self.subTest(deed):
                self.fits(deed, params=("p",))

    def bad_x(self, x):
        for deed in self.in_all_places(x):
            with self.subTest(deed):
                self.odd(deed, params=("p",))

    def test_good_ones(self):
        for x in self.SAMPLES:
            self.good_x(x)

    def test_of_anything(self):
        for thing in anything():
            self.bad_x(thing)

    def test_parts_too_few_or_too_many(self):
        for x in self.SAMPLES:
            self.bad_x(x + (ONE,))
            if x[0] != "row":
                self.bad_x(x[:-1])
                self.bad_x(x[:1] + x)

    def test_unknown_words(self):
        for word in ("IS", "minus", "let", "to", "", None, True, 0, (), []):
            self.bad_x((word, ONE, ONE))
            self.bad_x((word,))

    def test_of_anything_within(self):
        for thing in anything():
            for word in ("plus", "times", "less", "same", "row"):
                self.odd(("give", (word, ONE, thing)))
                self.odd(("give", (word, thing, ONE)))
            self.odd(("give", ("row", thing)))
            self.odd(("give", ("at", thing, 0)))
            self.odd(("give", ("own", thing)))
            self.odd(("give", ("var", thing)), params=("p",))

    def test_row_of_none_to_five(self):
        for many in range(6):
            self.good_x(("row",) + (ONE,) * many)
        self.bad_x(("row",) + (ONE,) * 6)

    def test_at(self):
        for k in range(5):
            self.good_x(("at", ONE, k))
        for k in (-1, 5, True, False, None, "0", ONE, 10 ** 29, (), []):
            self.bad_x(("at", ONE, k))

    def test_at_most_four_within_one_another(self):
        for word in ("plus", "times", "less", "same", "row"):
            for place in (0, 1):
                x = ONE
                for many in range(1, 7):
                    with self.subTest(word=word, many=many):
                        if many <= 4:
                            self.good_x(x)
                        else:
                            self.bad_x(x)
                    x = (word, x, ONE) if place == 0 else (word, ONE, x)
        self.good_x(("at", ("at", ("at", ONE, 0), 0), 0))
        self.bad_x(("at", ("at", ("at", ("at", ONE, 0), 0), 0), 0))
        self.good_x(("row", ("row", ("row", ("row",)))))
        self.bad_x(("row", ("row", ("row", ("row", ("row",))))))

    def test_worths_within_are_no_x(self):
        self.good_x(("row", ("row", ("row", ("is", (((1,),),))))))


class Vars(Good):
    V = ("give", ("var", "v"))

    def test_params(self):
        self.fits(self.V, params=("u", "v"))
        self.odd(self.V)
        self.odd(self.V, params=("u",))

    def test_params_of_another_method(self):
        self.odd(("give", ("var", "x")))

    def test_behind_what_names_them(self):
        for deed in (("let", "v", ONE), ("make", "v", "a", ()), ("call", "v", ONE, "w", ())):
            self.fits(deed, self.V)
            self.fits(deed, ("say", ONE), self.V)
            self.odd(self.V, deed)

    def test_not_in_what_names_them(self):
        v = ("var", "v")
        self.odd(("let", "v", v))
        self.odd(("make", "v", "a", (v,)))
        self.odd(("call", "v", v, "w", ()))
        self.odd(("call", "v", ONE, "w", (v,)))
        self.fits(("let", "v", v), ("make", "v", "a", (v,)), ("call", "v", v, "w", (v,)), params=("v",))

    def test_ahead_of_the_if(self):
        let = ("let", "v", ONE)
        self.fits(let, ("if", ("var", "v"), (self.V,), (self.V,)))
        self.fits(let, ("if", ONE, (("if", ONE, (self.V,), (self.V,)),), ()))
        self.odd(("if", ONE, (self.V,), ()), let)
        self.odd(("if", ONE, (), (self.V,)), let)
        self.odd(("if", ("var", "v"), (let,), (let,)))

    def test_not_out_of_an_if(self):
        let = ("let", "v", ONE)
        self.fits(("if", ONE, (let, self.V), (let, self.V)))
        self.odd(("if", ONE, (let,), (self.V,)))
        self.odd(("if", ONE, (self.V,), (let,)))
        self.odd(("if", ONE, (let,), (let,)), self.V)
        self.odd(("if", ONE, (("if", ONE, (let,), (let,)), self.V), ()))

    def test_other_deeds_name_nothing(self):
        self.odd(("set", "f", ONE), ("give", ("var", "f")))
        self.odd(("say", ONE), ("give", ("var", "say")))
        self.odd(("when", ONE, "v", ()), self.V)
        self.odd(("fail", "v"), self.V)


class Asked(Case):
    PLAN = (("a", (), ()), ("cell", (("z", None), ("have", (1, ("a",))), ("b", -5)),
                            (("zed", (), ()), ("get", (), ()), ("at", ("x",), ()), ("geta", (), ()))))

    def test_fields_of(self):
        self.told(fields_of(self.PLAN, "a"), {})
        self.told(fields_of(self.PLAN, "cell"), {"z": None, "have": (1, ("a",)), "b": -5})

    def test_words_of(self):
        self.told(words_of(self.PLAN, "a"), [])
        self.told(words_of(self.PLAN, "cell"), ["at", "get", "geta", "zed"])

    def test_the_asker_s_own(self):
        before = copy.deepcopy(self.PLAN)
        fields_of(self.PLAN, "cell")["z"] = 1
        words_of(self.PLAN, "cell").append("new")
        self.told(self.PLAN, before)
        self.told(fields_of(self.PLAN, "cell")["z"], None)
        self.told(words_of(self.PLAN, "cell"), ["at", "get", "geta", "zed"])

    def test_no_kind_of_anything(self):
        for thing in anything():
            if thing != "a":
                with self.subTest(thing):
                    self.refused(NoKind, {"kind": thing}, fields_of, self.PLAN, thing)
                    self.refused(NoKind, {"kind": thing}, words_of, self.PLAN, thing)
        for word in ("z", "get", "cel", "cello"):
            self.refused(NoKind, {"kind": word}, fields_of, self.PLAN, word)
            self.refused(NoKind, {"kind": word}, words_of, self.PLAN, word)


if __name__ == "__main__":
    unittest.main()
