import random
import re
import unittest

from searchback.clauses import (
    Apart, AtLeast, Below, Clause, Halt, InRoom, Is, IsNot, NotInRoom, Put, Run, SamePerson, ToRoom, Zero,
)
from searchback.customs import Custom
from searchback.customtext import custom_text, parse_custom
from searchback.errors import BadText
from searchback.kinds import Kinds
from tests.helpers import Case, Odd, plain_custom, random_custom, wide_custom

PLAIN = """kinds sells 2, takes 1
rooms free
seats owner
clock idle 3 runs
sells if owner is first: owner becomes second, idle to 0
takes if owner is nobody: owner becomes first, idle to 0
year if idle at least 3: owner becomes nobody"""
WIDE = """kinds open 0, takes 1, sells 2
rooms calm, suit, shut
seats owner, heir, agent
clock idle 3 runs
clock age 5 halts
takes if owner is nobody, not in shut: owner becomes first, idle to 0, age runs
sells if owner is first, apart: owner becomes second, agent becomes owner
sells if same: heir becomes first
open if in calm: move to suit, age halts
open if in suit: move to calm, owner becomes heir, heir becomes owner
open: nothing
year if idle at least 3, age below 4: owner becomes nobody, idle to 0
year if agent is not owner, age at least 5: move to shut, age to 0, idle halts"""
SHORT = "kinds a 1\nrooms b\nseats c\n"
SIGNS = "abx ,:;-\n0129A"

# The forms of the rows once more, as patterns.
LABEL = "[a-z]{1,6}"
NUMBER = "(0|[1-9][0-9]{0,2})"
CONDITION = "|".join([
    f"in {LABEL}", f"not in {LABEL}", f"{LABEL} is {LABEL}", f"{LABEL} is not {LABEL}", "same", "apart",
    f"{LABEL} at least {NUMBER}", f"{LABEL} below {NUMBER}"])
CHANGE = "|".join([f"move to {LABEL}", f"{LABEL} becomes {LABEL}", f"{LABEL} to 0", f"{LABEL} runs", f"{LABEL} halts"])
LISTS = [f"kinds {LABEL} [012](, {LABEL} [012])*", f"rooms {LABEL}(, {LABEL})*", f"seats {LABEL}(, {LABEL})*"]
CLOCK = f"clock {LABEL} {NUMBER} (runs|halts)"
CLAUSE = f"{LABEL}( if ({CONDITION})(, ({CONDITION}))*)?: (nothing|({CHANGE})(, ({CHANGE}))*)"


def first_wrong_row(text):
    """The index of the first row that has not the form of its place, or None."""
    rows = text.split("\n")
    for index, form in enumerate(LISTS):
        if index >= len(rows) or not re.fullmatch(form, rows[index]):
            return index
    at = 3
    while at < len(rows) and re.fullmatch(CLOCK, rows[at]):
        at += 1
    for index in range(at, len(rows)):
        if not re.fullmatch(CLAUSE, rows[index]):
            return index
    return None


class CustomTextTest(Case):
    def test_texts(self):
        self.assertEqual(custom_text(plain_custom()), PLAIN)
        self.assertEqual(custom_text(wide_custom()), WIDE)

    def test_the_clause_of_the_document(self):
        clause = Clause("year", [AtLeast("use", 3), IsNot("owner", "nobody")], [Put("owner", "nobody"), Halt("use")])
        custom = Custom(Kinds([("a", 0)]), ["b"], ["owner"], [("use", 40, False)], [clause])
        row = "year if use at least 3, owner is not nobody: owner becomes nobody, use halts"
        text = "kinds a 0\nrooms b\nseats owner\nclock use 40 halts\n" + row
        self.assertEqual(custom_text(custom), text)
        self.assertEqual(parse_custom(text), custom)

    def test_one_and_three_of_all(self):
        least = Custom(Kinds([("a", 0)]), ["b"], ["c"], [], [])
        self.assertEqual(custom_text(least), "kinds a 0\nrooms b\nseats c")
        self.assertEqual(parse_custom("kinds a 0\nrooms b\nseats c"), least)
        many = wide_custom().with_clauses([Clause("open", [InRoom("suit")], [Run("idle")])] * 12)
        self.assertEqual(parse_custom(custom_text(many)), many)
        self.assertEqual(custom_text(many).count("\n"), 16)

    def test_back(self):
        for text in (PLAIN, WIDE):
            self.assertEqual(custom_text(parse_custom(text)), text)
        self.assertEqual(parse_custom(PLAIN), plain_custom())
        self.assertEqual(parse_custom(WIDE), wide_custom())
        for seed in range(300):
            custom = random_custom(seed, most=12, cap=40)
            self.assertEqual(parse_custom(custom_text(custom)), custom)

    def test_names_that_look_like_words_of_the_text(self):
        kinds = Kinds([("if", 2), ("clock", 1), ("kinds", 0)])
        custom = Custom(kinds, ["in", "not", "is"], ["if", "is", "in"], [("below", 9, True), ("move", 10, False)], [
            Clause("if", [InRoom("in"), Is("if", "is"), IsNot("in", "if"), NotInRoom("not"), Is("in", "first")],
                   [ToRoom("in"), Put("if", "is"), Zero("move"), Run("below")]),
            Clause("clock", [Below("below", 9), AtLeast("move", 10), Is("is", "in")], [Zero("below"), Halt("move")]),
            Clause("if", [InRoom("not"), SamePerson(), Apart()], []), Clause("kinds"), Clause("year", [], [Zero("move")]),
        ])
        text = custom_text(custom)
        self.assertIn("if if in in, if is is, in is not if, not in not, in is first: move to in, if becomes is, "
                      "move to 0, below runs\n", text)
        self.assertIn("\nclock if below below 9, move at least 10, is is in: below to 0, move halts\n", text)
        self.assertEqual(parse_custom(text), custom)

    def test_text(self):
        for thing in (None, 0, True, b"kinds a 0", ["kinds a 0"], Odd(), wide_custom()):
            self.refuses((BadText, 0, "text"), parse_custom, thing)

    def test_missing_rows(self):
        self.refuses((BadText, 0, "row"), parse_custom, "")
        self.refuses((BadText, 1, "row"), parse_custom, "kinds a 0")
        self.refuses((BadText, 2, "row"), parse_custom, "kinds a 0\nrooms b")
        self.refuses((BadText, 0, "row"), parse_custom, "kinds a\nrooms B")
        self.refuses((BadText, 1, "row"), parse_custom, "kinds a 0\nrooms B")
        self.refuses((BadText, 1, "row"), parse_custom, "kinds a 0\n")
        self.refuses((BadText, 3, "row"), parse_custom, "kinds a 0\nrooms b\nseats c\n")

    def test_list_rows(self):
        rows = ["kinds a 0, b 1", "rooms b, c", "seats c, d"]
        wrong = {
            0: ["kinds", "kinds ", "kinds a", "kinds a 3", "kinds a 00", "kinds a 0,b 1", "kinds a 0, ", "Kinds a 0",
                " kinds a 0", "kinds  a 0", "kinds a 0 ", "kinds A 0", "rooms a 0", "kind a 0", "kinds a 0; b 1", "a 0"],
            1: ["rooms", "rooms ", "rooms B", "rooms b,c", "rooms b, ", "rooms , b", "rooms  b", "room b", "rooms b ",
                "seats b", "rooms b 0", "rooms b; c", "rooms abcdefg", "b"],
            2: ["seats", "seats ", "seats C", "seats c,d", "seats c, ", "seats  c", "seat c", "seats c ", "rooms c",
                "seats c 1", "clock c 1 runs"],
        }
        for index, texts in wrong.items():
            for text in texts:
                self.refuses((BadText, index, "row"), parse_custom, "\n".join([*rows[:index], text, *rows[index + 1:]]))
                self.refuses((BadText, index, "row"), parse_custom, "\n".join([*rows[:index], text, "", "", ""]))

    def test_clock_rows(self):
        for row in ("clock k 1 run", "clock k 01 runs", "clock k 1000 runs", "clock k  runs", "clock k -1 runs",
                    "clock K 1 runs", "clock k 1 runs ", "clock  k 1 runs", "clock k 1", "clock k 1 runs halts",
                    "Clock k 1 runs", "clock k one runs", "clock k \u0661 runs", "clock k \u00b2 runs", "k 1 runs"):
            self.refuses((BadText, 3, "row"), parse_custom, SHORT + row)
            self.refuses((BadText, 4, "row"), parse_custom, SHORT + "clock l 1 runs\n" + row + "\na: nothing")
        self.refuses((BadText, 4, "row"), parse_custom, SHORT + "a: nothing\nclock k 1 runs")
        for row in ("clock k 0 runs", "clock k 41 halts", "clock k 999 runs", "clock k 1 runs\nclock k 1 runs",
                    "clock k 1 runs\nclock l 1 runs\nclock m 1 runs"):
            self.refuses((BadText, 0, "custom"), parse_custom, SHORT + row)

    def test_clause_rows(self):
        for row in ("a", "a:", "a: ", "a:nothing", "a : nothing", " a: nothing", "a: nothing ", "A: nothing",
                    "a: Nothing", "a: nothing, nothing", "a: k to 0, nothing", "a: k to 00", "a: k to 1", "a: move to B",
                    "a: move  to b", "a: moves to b", "a: c becomes", "a: c becomes 1", "a: k run", "a: k halted",
                    "a: k runs,k to 0", "a: k runs; k to 0", "a: in b", "a if: nothing", "a if : nothing",
                    "a if in: nothing", "a if in B: nothing", "a if not in: nothing", "a if not b: nothing",
                    "a if c is: nothing", "a if c is not: nothing x", "a if is c: nothing", "a if c is not not d: nothing",
                    "a if c isnot d: nothing", "a if Same: nothing", "a if same apart: nothing", "a if same,apart: nothing",
                    "a if same, : nothing", "a if k at least: nothing", "a if k at least 01: nothing",
                    "a if k at least 1000: nothing", "a if k at most 1: nothing", "a if k below: nothing",
                    "a if k below -1: nothing", "a if k below one: nothing", "a if k over 1: nothing",
                    "a if in b if in b: nothing", "a if in b: k runs: k runs", "a b: nothing", "a if  in b: nothing",
                    "a  if in b: nothing", "a if nothing: nothing", "year if c becomes d: nothing", "", "nothing", ": nothing",
                    "a unless in b: nothing", "abcdefg: nothing", "1: nothing", "a if k below \u0661: nothing"):
            self.refuses((BadText, 3, "row"), parse_custom, SHORT + row)
            self.refuses((BadText, 4, "row"), parse_custom, SHORT + "zz if same, same: zz to 0, zz to 0\n" + row + "\n1")

    def test_what_custom_refuses(self):
        for text in ("kinds year 0\nrooms b\nseats c", "kinds a 0, a 0\nrooms b\nseats c",
                     "kinds a 0, b 0, c 0, d 0, e 0, f 0, g 0\nrooms b\nseats c", "kinds a 1\nrooms b, b\nseats c",
                     "kinds a 1\nrooms b, c, d, e\nseats c", "kinds a 1\nrooms b\nseats first",
                     "kinds a 1\nrooms b\nseats c, d, e, f", "kinds a 1\nrooms b\nseats c, c"):
            self.refuses((BadText, 0, "custom"), parse_custom, text)
        for row in ("b: nothing", "a if in c: nothing", "a if c is c: nothing", "a if first is c: nothing",
                    "a if c is not c: nothing", "a if c is d: nothing", "a if d is not c: nothing", "a if same: nothing",
                    "a: c becomes second", "year: c becomes first", "a if in b, in b: nothing", "a: move to b, move to b",
                    "a: c becomes first, c becomes nobody", "a: k runs", "a: move to c", "a if k below 3: nothing",
                    "a: c becomes c", "a: second becomes c", "a if c is first, c is not first, c is nobody, in b, not in b, "
                    "c is not nobody, in c: nothing", "\n".join(["a: nothing"] * 13)):
            self.refuses((BadText, 0, "custom"), parse_custom, SHORT + row)
        clocked = SHORT + "clock k 3 runs\n"
        for row in ("a if k at least 0: nothing", "a if k below 4: nothing", "a if k below 999: nothing",
                    "a: k runs, k halts", "a: k to 0, k to 0"):
            self.refuses((BadText, 0, "custom"), parse_custom, clocked + row)
        self.assertEqual(len(parse_custom(clocked + "a if k at least 3, k below 3: k to 0, k halts")), 1)

    def test_a_wrong_row_comes_ahead_of_what_custom_refuses(self):
        self.refuses((BadText, 4, "row"), parse_custom, "kinds year 0\nrooms b, b\nseats first\nb: c becomes c\nb")

    def test_every_text_with_one_sign_more_or_less(self):
        rnd = random.Random(5)
        for text in (PLAIN, WIDE):
            for at in range(len(text) + 1):
                sign = rnd.choice(SIGNS)
                for other in (text[:at] + text[at + 1:], text[:at] + sign + text[at:], text[:at] + sign + text[at + 1:]):
                    self.is_refused_or_just_so(other)

    def test_every_sign_in_a_short_text(self):
        text = "kinds a 2\nrooms b\nseats c\nclock k 3 runs\na if c is first, k below 2: k to 0\nyear: nothing"
        for at in range(len(text) + 1):
            for sign in SIGNS:
                self.is_refused_or_just_so(text[:at] + sign + text[at:])
                self.is_refused_or_just_so(text[:at] + sign + text[at + 1:])

    def is_refused_or_just_so(self, text):
        try:
            custom = parse_custom(text)
        except BadText as error:
            wrong = first_wrong_row(text)
            self.assertEqual((error.row, error.what), (0, "custom") if wrong is None else (wrong, "row"), text)
        else:
            self.assertEqual(custom_text(custom), text)


if __name__ == "__main__":
    unittest.main()
