"""Acts: point 7, and points 2 and 3 as far as they speak of it."""

import copy
import unittest

from farcalls.acting import act
from farcalls.errors import NoKind
from farcalls.plans import need_plan
from helpers import Case, anything, exact

BOTTOM = 999999999
FIELDS = {"f": 3, "g": ("a", 1)}
THING = ("to", "1#4")
PROMISE = ("to", "2:0.1")


def plan_of(deeds, params=()):
    """A plan whose kind b has a method m of these deeds."""
    plan = (("a", (("one", 1), ("two", ("x", 2)), ("three", None)), ()),
            ("b", (("f", 0), ("g", None)), (("m", params, tuple(deeds)), ("n", ("x", "y"), ()))))
    need_plan(plan)
    return plan


def acted(*deeds, params=(), args=(), fields=None, call="0:7", me="3#1"):
    """What comes of these deeds."""
    fields = FIELDS if fields is None else fields
    return act(plan_of(deeds, params), "b", dict(fields), call, me=me, word="m", args=args)


def worth(x, *args):
    """The outcome of giving an X, of the params p, q, r .."""
    return acted(("give", x), params=("p", "q", "r", "s", "t")[:len(args)], args=args)[0]


P, Q = ("var", "p"), ("var", "q")
FAULT = (("broken", "odd"), FIELDS, (), (), (), None)


class Methods(Case):
    def test_nothing_done(self):
        self.told(acted(), (("kept", None), FIELDS, (), (), (), None))

    def test_args_may_be_left_out(self):
        plan = plan_of([("say", ("is", 1))])
        self.told(act(plan, "b", FIELDS, "0:0", me="0#0", word="m"), (("kept", None), FIELDS, (1,), (), (), None))

    def test_params_have_the_args(self):
        args = (1, "a", None, THING, (PROMISE,))
        got = acted(*[("say", ("var", p)) for p in "pqrst"], params=tuple("pqrst"), args=args)
        self.told(got[2], args)

    def test_a_word_that_the_kind_has_not(self):
        plan = plan_of([("give", ("is", 1))])
        for word in ("o", "b", "f", "mm"):
            self.told(act(plan, "b", dict(FIELDS), "0:0", me="0#0", word=word), FAULT)
        self.told(act(plan, "a", {}, "0:0", me="0#0", word="m"), (("broken", "odd"), {}, (), (), (), None))

    def test_not_with_so_many_params(self):
        plan = plan_of([("give", ("is", 1))])
        for word, many in (("m", 1), ("m", 5), ("n", 0), ("n", 1), ("n", 3), ("n", 5)):
            with self.subTest(word=word, many=many):
                self.told(act(plan, "b", dict(FIELDS), "0:0", me="0#0", word=word, args=(None,) * many), FAULT)
        self.told(act(plan, "b", FIELDS, "0:0", me="0#0", word="n", args=(1, 2))[0], ("kept", None))

    def test_no_kind_of_anything(self):
        plan = plan_of([])
        for thing in anything():
            if thing != "a":
                with self.subTest(thing):
                    self.refused(NoKind, {"kind": thing}, act, plan, thing, FIELDS, "0:0", me="0#0", word="m")
                    self.refused(NoKind, {"kind": thing}, act, plan, thing, FIELDS, "0:0", me="0#0", word="o",
                                 args=(1,))
        self.refused(NoKind, {"kind": "m"}, act, plan, "m", FIELDS, "0:0", me="0#0", word="m")

    def test_nothing_handed_in_is_changed(self):
        plan = plan_of([("set", "f", ("is", 9)), ("make", "v", "b", (("is", 5),))])
        before, fields = copy.deepcopy(plan), dict(FIELDS)
        got = act(plan, "b", fields, "0:0", me="0#0", word="m")
        self.told(fields, FIELDS)
        self.told(plan, before)
        self.told(got[1], {"f": 9, "g": ("a", 1)})

    def test_what_is_told_is_the_asker_s_own(self):
        for deeds in ([("set", "f", ("is", 9)), ("make", "v", "a", ())], [("make", "v", "a", ()), ("fail", "sad")], []):
            plan, fields = plan_of(deeds), dict(FIELDS)
            first = act(plan, "b", fields, "0:0", me="0#0", word="m")
            before = copy.deepcopy(first)
            again = act(plan, "b", fields, "0:0", me="0#0", word="m")
            self.assertIsNot(first[1], fields)
            first[1]["f"] = "changed"
            for row in first[3]:
                row[2]["one"] = "changed"
            self.told(fields, FIELDS)
            self.told(again, before)
            self.told(act(plan, "b", fields, "0:0", me="0#0", word="m"), before)

    def test_a_new_dict_where_the_word_is_odd(self):
        fields = dict(FIELDS)
        got = act(plan_of([]), "b", fields, "0:0", me="0#0", word="o")
        self.assertIsNot(got[1], fields)


class Deeds(Case):
    def test_let(self):
        self.told(acted(("let", "v", ("is", 1)), ("let", "v", ("plus", ("var", "v"), ("is", 1))), ("give", ("var", "v")))[0],
                  ("kept", 2))

    def test_let_of_a_param(self):
        self.told(acted(("let", "p", ("plus", P, P)), ("give", P), params=("p",), args=(4,))[0], ("kept", 8))

    def test_one_set_of_vars_in_ifs_too(self):
        change = ("let", "v", ("is", 2))
        for x, first, other in ((1, (change,), ()), (0, (), (change,))):
            got = acted(("let", "v", ("is", 1)), ("if", ("is", x), first, other), ("give", ("var", "v")))
            self.told(got[0], ("kept", 2))

    def test_set(self):
        got = acted(("set", "f", ("own", "g")), ("say", ("own", "f")), ("set", "g", ("is", None)))
        self.told(got, (("kept", None), {"f": ("a", 1), "g": None}, (("a", 1),), (), (), None))

    def test_say(self):
        got = acted(("say", ("is", 1)), ("say", ("me",)), ("say", ("is", ())), ("say", ("is", 1)))
        self.told(got[2], (1, ("to", "3#1"), (), 1))

    def test_make(self):
        got = acted(("make", "v", "a", (("is", 7), ("me",))), ("make", "w", "b", ()), ("make", "v", "a", (("var", "w"),)),
                    ("say", ("var", "v")), ("say", ("var", "w")), call="2:3.4")
        self.told(got[3], (("2:3.4#0", "a", {"one": 7, "two": ("to", "3#1"), "three": None}),
                           ("2:3.4#1", "b", {"f": 0, "g": None}),
                           ("2:3.4#2", "a", {"one": ("to", "2:3.4#1"), "two": ("x", 2), "three": None})))
        self.told(got[2], (("to", "2:3.4#2"), ("to", "2:3.4#1")))
        self.told(got[4], ())

    def test_make_with_all_fields(self):
        got = acted(("make", "v", "a", (("is", "k"), ("is", None), ("is", 0))))
        self.told(got[3], (("0:7#0", "a", {"one": "k", "two": None, "three": 0}),))

    def test_make_keeps_the_vars_of_its_args(self):
        got = acted(("let", "v", ("is", 1)), ("make", "v", "a", (("var", "v"),)))
        self.told(got[3][0][2]["one"], 1)

    def test_call(self):
        got = acted(("call", "v", P, "get", ()), ("call", "w", ("var", "v"), "put", (("is", 1), Q, ("me",))),
                    ("say", ("var", "v")), ("say", ("var", "w")), params=("p", "q"), args=(THING, PROMISE))
        self.told(got[4], (("0:7.0", "1#4", "get", (), False),
                           ("0:7.1", "0:7.0", "put", (1, PROMISE, ("to", "3#1")), False)))
        self.told(got[2], (("to", "0:7.0"), ("to", "0:7.1")))

    def test_call_of_no_hold(self):
        for other in (None, 0, 5, "to", (), ("to", "a"), (THING,), ("to",), (THING, THING)):
            with self.subTest(other):
                self.told(acted(("call", "v", P, "get", ()), params=("p",), args=(other,)), FAULT)

    def test_when(self):
        for other in (None, 0, "a", (), THING, PROMISE, (1, PROMISE)):
            with self.subTest(other):
                got = acted(("when", P, "later", ()), ("when", P, "later", (("is", 1), P, ("own", "f"))),
                            params=("p",), args=(other,))
                self.told(got[4], (("0:7.0", other, "later", (), True), ("0:7.1", other, "later", (1, other, 3), True)))

    def test_calls_and_whens_are_counted_as_one_and_things_apart(self):
        got = acted(("call", "v", P, "get", ()), ("make", "t", "a", ()), ("when", P, "get", ()), ("make", "u", "a", ()),
                    ("call", "w", P, "get", ()), ("say", ("row", ("var", "v"), ("var", "t"), ("var", "u"), ("var", "w"))),
                    params=("p",), args=(THING,), call="0:1")
        self.told([row[0] for row in got[4]], ["0:1.0", "0:1.1", "0:1.2"])
        self.told([row[0] for row in got[3]], ["0:1#0", "0:1#1"])
        self.told(got[2], ((("to", "0:1.0"), ("to", "0:1#0"), ("to", "0:1#1"), ("to", "0:1.2")),))

    def test_more_than_ten_puts(self):
        got = acted(*[("when", ("is", 1), "get", ())] * 12)
        self.told(got[4][-1][0], "0:7.11")

    def test_if(self):
        for other in (None, 0):
            self.told(acted(("if", P, (("say", ("is", 1)),), (("say", ("is", 2)),)), params=("p",), args=(other,))[2], (2,))
        for other in (1, -1, "a", (), (0,), (None,), THING, PROMISE):
            with self.subTest(other):
                self.told(acted(("if", P, (("say", ("is", 1)),), (("say", ("is", 2)),)), params=("p",), args=(other,))[2],
                          (1,))

    def test_behind_an_if_the_act_goes_on(self):
        got = acted(("if", ("is", 1), (("say", ("is", 1)), ("if", ("is", 0), (), (("say", ("is", 2)),))), ()),
                    ("say", ("is", 3)))
        self.told(got[2], (1, 2, 3))

    def test_give_ends_the_act(self):
        got = acted(("say", ("is", 1)), ("give", ("is", 5)), ("say", ("is", 2)), ("fail", "sad"))
        self.told(got, (("kept", 5), FIELDS, (1,), (), (), None))

    def test_give_in_ifs_ends_the_act(self):
        give = ("give", ("is", 5))
        for deed in (("if", ("is", 1), (give,), ()), ("if", ("is", 0), (), (give,)),
                     ("if", ("is", 1), (("if", ("is", 1), (("if", ("is", 0), (), (give,)),), ()),), ())):
            self.told(acted(deed, ("give", ("is", 6)), ("fail", "sad"))[0], ("kept", 5))

    def test_give_of_none_ends_the_act(self):
        self.told(acted(("if", ("is", 1), (("give", ("is", None)),), ()), ("give", ("is", 6)))[0], ("kept", None))

    def test_give_of_holds(self):
        for other in (THING, PROMISE, (PROMISE,)):
            self.told(worth(P, other), ("kept", other))

    def test_fail(self):
        self.told(acted(("fail", "sad"))[0], ("broken", "sad"))
        self.told(acted(("fail", "sad"), ("fail", "mad"))[0], ("broken", "sad"))
        self.told(acted(("fail", "lost"), ("give", ("is", 1)))[0], ("broken", "lost"))

    def test_a_fault_leaves_nothing_else(self):
        done = (("set", "f", ("is", 9)), ("say", ("is", 1)), ("make", "v", "a", ()), ("call", "w", ("var", "v"), "get", ()),
                ("when", ("is", 1), "get", ()), ("move", 2))
        self.told(acted(*done, ("fail", "sad")), (("broken", "sad"), FIELDS, (), (), (), None))
        self.told(acted(*done, ("say", ("plus", ("is", "a"), ("is", 1)))), FAULT)
        self.told(acted(*done, ("if", ("is", 1), (("fail", "sad"),), ())), (("broken", "sad"), FIELDS, (), (), (), None))
        self.told(acted(*done)[0], ("kept", None))

    def test_move(self):
        for house in range(6):
            self.told(acted(("move", house))[5], house)
        self.told(acted(("move", 2), ("move", 0), ("move", 4))[5], 4)
        self.told(acted(("if", ("is", 1), (("move", 2),), ()), ("give", ("is", 1)), ("move", 3))[5], 2)
        self.told(acted(("say", ("is", 1)))[5], None)

    def test_faults_wherever_an_x_stands(self):
        x = ("at", ("is", 1), 0)
        one = ("is", 1)
        for deed in (("let", "v", x), ("set", "f", x), ("say", x), ("make", "v", "a", (one, x)),
                     ("call", "v", x, "w", ()), ("call", "v", ("me",), "w", (one, x)), ("when", x, "w", ()),
                     ("when", one, "w", (one, x)), ("if", x, (), ()), ("give", x)):
            with self.subTest(deed):
                self.told(acted(deed), FAULT)


class Worths(Case):
    def test_is(self):
        for other in (None, 0, -5, "a", (), (1, ("a",)), ("to", "a")):
            self.told(worth(("is", other)), ("kept", other))

    def test_own(self):
        self.told(worth(("own", "f")), ("kept", 3))
        self.told(worth(("own", "g")), ("kept", ("a", 1)))

    def test_me(self):
        self.told(worth(("me",)), ("kept", ("to", "3#1")))
        self.told(acted(("give", ("me",)), me="0:1.2#3")[0], ("kept", ("to", "0:1.2#3")))

    def test_plus(self):
        for one, other, both in ((1, 2, 3), (0, 0, 0), (-5, 3, -2), (BOTTOM, 0, BOTTOM), (BOTTOM - 1, 1, BOTTOM),
                                 (-BOTTOM, BOTTOM, 0), (-BOTTOM + 1, -1, -BOTTOM)):
            self.told(worth(("plus", P, Q), one, other), ("kept", both))
        for one, other in ((BOTTOM, 1), (1, BOTTOM), (-BOTTOM, -1), (BOTTOM, BOTTOM)):
            self.told(worth(("plus", P, Q), one, other), ("broken", "odd"))

    def test_times(self):
        for one, other, both in ((2, 3, 6), (-2, 3, -6), (-2, -3, 6), (0, BOTTOM, 0), (BOTTOM, -1, -BOTTOM),
                                 (333333333, 3, BOTTOM), (333333333, -3, -BOTTOM)):
            self.told(worth(("times", P, Q), one, other), ("kept", both))
        for one, other in ((500000000, 2), (-500000000, 2), (BOTTOM, BOTTOM), (-BOTTOM, BOTTOM), (31623, 31623)):
            self.told(worth(("times", P, Q), one, other), ("broken", "odd"))

    def test_less(self):
        for one, other, told in ((1, 2, 1), (2, 1, 0), (1, 1, 0), (-2, -1, 1), ("a", "b", 1), ("b", "a", 0), ("a", "a", 0),
                                 ("a", "aa", 1), ("b", "aa", 0), ("z", "abc", 0), (9, 10, 1), (-BOTTOM, BOTTOM, 1)):
            self.told(worth(("less", P, Q), one, other), ("kept", told))

    def test_what_is_no_number(self):
        others = (None, "a", (), (1,), (1, 2), THING, PROMISE)
        for word in ("plus", "times", "less"):
            for other in others:
                with self.subTest(word=word, other=other):
                    self.told(worth((word, P, Q), 1, other), ("broken", "odd"))
                    self.told(worth((word, P, Q), other, 1), ("broken", "odd"))
                    if word != "less" or other != "a":
                        self.told(worth((word, P, Q), other, other), ("broken", "odd"))
        for other in (None, (), ("b",), THING):
            self.told(worth(("less", P, Q), "a", other), ("broken", "odd"))
            self.told(worth(("less", P, Q), other, "a"), ("broken", "odd"))

    def test_same(self):
        bare = (None, 0, 1, -1, "a", "b", "to", (), (0,), (None,), ((),), (1, "a"), ("a", 1), ("to", "a"), (1, 2, 3))
        for one in bare:
            for other in bare:
                with self.subTest(one=one, other=other):
                    self.told(worth(("same", P, Q), one, other), ("kept", 1 if exact(one) == exact(other) else 0))

    def test_same_of_holds(self):
        for held in (THING, PROMISE, (THING,), (1, ("a", (PROMISE,)))):
            for other in (1, None, held, THING, ()):
                with self.subTest(held=held, other=other):
                    self.told(worth(("same", P, Q), held, other), ("broken", "odd"))
                    self.told(worth(("same", P, Q), other, held), ("broken", "odd"))

    def test_row(self):
        self.told(worth(("row",)), ("kept", ()))
        self.told(worth(("row", P), 1), ("kept", (1,)))
        self.told(worth(("row", P, Q, P, ("row",), ("me",)), 1, THING), ("kept", (1, THING, 1, (), ("to", "3#1"))))

    def test_row_that_is_no_worth(self):
        self.told(worth(("row", P), ((),)), ("kept", (((),),)))
        self.told(worth(("row", P), ((1,),)), ("kept", (((1,),),)))
        self.told(worth(("row", P), (((1,),),)), ("broken", "odd"))
        self.told(worth(("row", ("is", 1), P), (((),),)), ("broken", "odd"))
        self.told(worth(("row", ("row", ("row", P))), (1,)), ("broken", "odd"))
        self.told(worth(("row", ("row", P)), (1,)), ("kept", (((1,),),)))

    def test_row_with_holds_aside(self):
        self.told(worth(("row", P), ((THING,),)), ("kept", (((THING,),),)))
        self.told(worth(("row", ("row", ("row", P))), PROMISE), ("kept", (((PROMISE,),),)))
        self.told(worth(("row", P), (((THING,),),)), ("broken", "odd"))

    def test_row_of_two_words_is_no_hold(self):
        self.told(worth(("at", ("row", ("is", "to"), ("is", "a")), 1)), ("kept", "a"))
        self.told(worth(("same", ("row", ("is", "to"), ("is", "a")), ("is", ("to", "a")))), ("kept", 1))
        self.told(acted(("call", "v", ("row", ("is", "to"), ("is", "a")), "get", ())), FAULT)

    def test_at(self):
        for k in range(5):
            self.told(worth(("at", P, k), (9, 8, 7, 6, 5)), ("kept", 9 - k))
        self.told(worth(("at", P, 0), ()), ("kept", None))
        self.told(worth(("at", P, 2), (1, 2)), ("kept", None))
        self.told(worth(("at", P, 1), (1, 2)), ("kept", 2))
        self.told(worth(("at", P, 0), (THING,)), ("kept", THING))
        self.told(worth(("at", P, 1), ("to", "a")), ("kept", "a"))

    def test_at_of_what_is_no_tuple(self):
        for other in (None, 0, 1, "a", THING, PROMISE):
            for k in (0, 1, 4):
                self.told(worth(("at", P, k), other), ("broken", "odd"))


if __name__ == "__main__":
    unittest.main()
