"""Worths and plans as texts: points 27 and 28."""

import unittest

from farcalls.errors import BadText
from farcalls.plantexts import read_plan, show_plan, show_worth
from helpers import Case, anything
from test_near import PLAN as NEAR
from web import PLAN as WEB

ONE = ("is", 1)
WHOLE = (
    ("a", (), ()),
    ("cell", (("have", None), ("more", (1, ("a", ()))), ("last", "word")), (
        ("get", (), ()),
        ("all", ("p", "q"), (
            ("let", "v", ("var", "p")),
            ("set", "have", ("own", "more")),
            ("say", ("me",)),
            ("make", "t", "cell", (("var", "v"), ("row",))),
            ("make", "u", "a", ()),
            ("call", "c", ("var", "t"), "get", (("plus", ONE, ("is", -5)), ("times", ONE, ("is", None)))),
            ("when", ("var", "c"), "get", (("less", ONE, ONE), ("same", ("is", "b"), ("is", ()))) ),
            ("if", ("at", ("var", "q"), 4), (("give", ("row", ONE, ("is", "a"))),), (("fail", "sad"),)),
            ("move", 5),
            ("if", ("is", 0), (), (("if", ("me",), (("say", ONE),), ()),)),
        )),
    )),
    ("b", (), (("m", (), (("say", ("is", (999999999, -999999999))),)),)),
)
TEXT = """kind a
kind cell have - more < 1 < 'a < > > > last 'word
does get
does all p q
let v p
set have .more
say *
make t cell v ( row )
make u a
call c t get ( plus 1 -5 ) ( times 1 - )
when c get ( less 1 1 ) ( same 'b < > )
if ( at q 4 )
give ( row 1 'a )
else
fail sad
end
move 5
if 0
else
if *
say 1
else
end
end
kind b
does m
say < 999999999 -999999999 >"""


class Shown(Case):
    def test_worths(self):
        for worth, text in ((None, "-"), (0, "0"), (-7, "-7"), (999999999, "999999999"), ("abc", "'abc"), ("to", "'to"),
                            ((), "< >"), ((1, "a"), "< 1 'a >"), (("to", "0:1"), "@0:1"), (("to", "0:1.2#3"), "@0:1.2#3"),
                            (("to", "abc"), "< 'to 'abc >"), (("to",), "< 'to >"),
                            ((None, (("to", "1#0"), ()), -1), "< - < @1#0 < > > -1 >")):
            with self.subTest(worth):
                self.told(show_worth(worth), text)

    def test_plans(self):
        self.told(show_plan(WHOLE), TEXT)
        self.told(show_plan((("a", (), ()),)), "kind a")

    def test_read_back(self):
        for plan in (WHOLE, NEAR, WEB, (("a", (), ()),)):
            self.told(read_plan(show_plan(plan)), plan)


class Read(Case):
    def bad(self, row, *rows):
        """The text of these rows is refused for this one."""
        self.refused(BadText, {"row": row}, read_plan, "\n".join(rows))

    def alone(self, *rows):
        """Each row, behind others, is none that a plan can have."""
        for row in rows:
            with self.subTest(row):
                self.bad(3, "kind a f 1", "does m p", "say 1", row, "nothing")

    def test_anything(self):
        for thing in anything():
            with self.subTest(thing):
                self.refused(BadText, {"row": 0}, read_plan, thing)
        self.bad(0, "")
        self.bad(0, "", "kind a")
        self.bad(1, "kind a", "")

    def test_words(self):
        self.alone("", " ", "nothing", "Kind b", "kind", "kind ", "kind b ", " kind b", "kind  b", "kind B", "kind abcdefghi",
                   "kind b1", "kind 'b", "does", "does M", "does m 1", "does m .a", "say 1\t", "say 1 ", "\tsay 1", "SAY 1",
                   "elsewhere", "else 1", "end 1", "end ", "if", "if 1 1", "kind b f", "kind b 1 1", "does m p p",
                   "does m p q p", "does m a b c d e f", "kind b f 1 g 2 f 3", "kind b f - f -")
        self.alone("kind b " + " ".join(f"{word} 1" for word in "abcdef"))

    def test_deeds(self):
        self.alone("let", "let v", "let v 1 1", "let V 1", "let .v 1", "let 1 1", "set f", "set .f 1", "set f 1 2", "say",
                   "say 1 1", "give", "give 1 1", "fail", "fail 1", "fail 'sad", "fail sad sad", "fail .sad", "move",
                   "move 6", "move 01", "move -1", "move -0", "move a", "move 1 1", "move 10", "make", "make v", "make v A",
                   "make 1 a", "make v 'a", "make v a 1 1 1 1 1 1", "call", "call v", "call v 1", "call v 1 'get",
                   "call 1 1 get", "call v 1 get 1 1 1 1 1 1", "when", "when 1", "when 1 1", "when 1 get 1 1 1 1", "when get")

    def test_x(self):
        for x in ("", "(", ")", "( )", "( row", "row )", "( row 1", "( row 1 ) )", "( plus 1 )", "( plus 1 1 1 )", "( plus )",
                  "( at 1 )", "( at 1 5 )", "( at 1 -1 )", "( at 1 1 1 )", "( at 1 p )", "( at 4 )", "( me )", "( own f )",
                  "( var p )", "( is 1 )", "( rows )", "(row)", "( row 1 1 1 1 1 1 )", "( same 1 )", "( less 1 )",
                  "( times 1 )", "( PLUS 1 1 )", "01", "-0", "-01", "+1", "1_0", "1.0", "--1", "1000000000",
                  "-1000000000", "9" * 30, "9" * 5000, "'", "'A", "''a", "'abcdefghi", "'a1", "' a", ".", ".A", ".1", "..f",
                  ". f", "**", "@0:0", "@", "<", ">", "< 1", "1 >", "<1>", "< 1 >>", "< 1 1 1 1 1 1 >", "< p >", "< * >",
                  "< .f >", "< @0:0 >", "< < < < > > > >", "< ( row ) >", "A", "abcdefghi", "p1", "{", "\"a\"",
                  "( plus ( plus ( plus ( plus 1 1 ) 1 ) 1 ) 1 )", "( row ( row ( row ( row ( row ) ) ) ) )",
                  "( at ( at ( at ( at 1 1 ) 1 ) 1 ) 1 )", "( row ( row ( row ( row 1 ) ) ) )", "< " * 5000 + "> " * 4999 + ">",
                  "( row " * 5000 + ") " * 4999 + ")"):
            self.alone(f"say {x}", f"let v {x}", f"if {x}", f"when {x} get", f"make v a 1 {x}", f"call v 1 get 1 {x}")

    def test_x_that_goes(self):
        for x in ("-", "0", "-1", "'a", "p", ".f", "*", "( row )", "( row 1 2 3 4 5 )", "( at p 0 )", "( at p 4 )",
                  "( plus ( plus ( plus 1 1 ) 1 ) 1 )", "( row ( row ( row ) ) )", "< < < 1 > > >", "< 1 2 3 4 5 >",
                  "( row ( row ( row < < < > > > ) ) )", "< 'to 'abc >", "999999999"):
            with self.subTest(x):
                text = f"kind a f 1\ndoes m p\nsay {x}"
                self.told(show_plan(read_plan(text)), text)

    def test_as_many_as_can_be(self):
        plan = (("abcdefgh", tuple((word, 1) for word in "abcde"), (
            ("m", tuple("abcde"), (("make", "v", "abcdefgh", (ONE,) * 5), ("call", "v", ONE, "m", (ONE,) * 5),
                                   ("when", ONE, "m", (ONE,) * 3))),)),)
        self.told(read_plan(show_plan(plan)), plan)

    def test_kinds_fields_and_vars_are_aside(self):
        for row in ("say q", "say .g", "set g 1", "make v b", "make v a 1 1", "make v a 1 1 1 1 1"):
            with self.subTest(row):
                self.bad(3, "kind a f 1", "does m p", row)
                self.bad(3, "kind a f 1", "does m p", row, "nothing")

    def test_where_rows_stand(self):
        self.bad(0, "does m")
        self.bad(0, "say 1", "nothing")
        self.bad(0, "end")
        self.bad(0, "else")
        self.bad(0, "if 1")
        self.bad(1, "kind a", "say 1")
        self.bad(1, "kind a", "if 1")
        self.bad(1, "kind a", "else")
        self.bad(3, "kind a", "does m", "kind b", "say 1")
        self.bad(2, "kind a", "does m", "else")
        self.bad(2, "kind a", "does m", "end")
        self.bad(3, "kind a", "does m", "if 1", "end")
        self.bad(4, "kind a", "does m", "if 1", "else", "else")
        self.bad(5, "kind a", "does m", "if 1", "else", "end", "end")
        self.bad(5, "kind a", "does m", "if 1", "else", "end", "else")
        self.bad(3, "kind a", "does m", "if 1", "kind b")
        self.bad(3, "kind a", "does m", "if 1", "does n")
        self.bad(4, "kind a", "does m", "if 1", "else", "does n")
        self.bad(4, "kind a", "does m", "if 1", "else", "kind b")
        self.bad(5, "kind a", "does m", "if 1", "if 2", "else", "else")
        self.bad(6, "kind a", "does m", "if 1", "if 2", "else", "end", "end")

    def test_the_first_row_counts(self):
        self.bad(1, "kind a", "nothing", "say 1")
        self.bad(1, "kind a", "end", "nothing")

    def test_no_plan(self):
        self.bad(3, "kind a", "does m", "if 1")
        self.bad(4, "kind a", "does m", "if 1", "else")
        self.bad(2, "kind a", "kind a")
        self.bad(3, "kind a", "does m", "does m")
        self.bad(7, *[f"kind {word}" for word in "abcdefg"])
        self.bad(10, "kind a", *[f"does {word}" for word in "abcdefghi"])
        self.bad(43, "kind a", "does m", *["say 1"] * 41)
        self.told(len(read_plan("\n".join(["kind a", "does m"] + ["say 1"] * 40))[0][2][0][2]), 40)
        self.bad(14, "kind a", "does m", *["if 1"] * 4, *["else", "end"] * 4)
        self.told(read_plan("\n".join(["kind a", "does m", *["if 1"] * 3, *["else", "end"] * 3]))[0][0], "a")
        self.bad(2002, "kind a", "does m", *["if 1"] * 1000, *["else"], *["end", "else"] * 499, "end")
        self.bad(3, "kind a", "does m", "let v v")

    def test_every_other_sign_is_noticed(self):
        # what is read is what was written, so of two texts one at most is that of a plan
        for at in range(len(TEXT)):
            for sign in ("", " ", "\n", "a", "1", "(", "-", "'", TEXT[at] * 2):
                other = TEXT[:at] + sign + TEXT[at + 1:]
                try:
                    plan = read_plan(other)
                except BadText as bad:
                    self.assertTrue(0 <= bad.row <= other.count("\n") + 1)
                    continue
                self.told(show_plan(plan), other)


if __name__ == "__main__":
    unittest.main()
