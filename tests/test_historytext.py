import unittest

from searchback.errors import BadHistory, BadText
from searchback.histories import MOST_DEEDS, MOST_YEARS, History
from searchback.historytext import history_text, kinds_text, parse_history, parse_kinds
from searchback.kinds import Kinds
from tests.helpers import Case, Odd, random_custom, random_history

KINDS = Kinds([("grant", 1), ("sells", 2), ("open", 0)])
NO_TEXTS = (None, 0, True, b"grant 1", ["grant 1"], ("grant 1",), {}, Odd())
SIGNS = "ab -;,\n012A:\t"


def edited(text):
    """All texts with one sign taken out, put in or changed."""
    for at in range(len(text) + 1):
        for sign in SIGNS:
            yield text[:at] + sign + text[at:]
            yield text[:at] + sign + text[at + 1:]
        yield text[:at] + text[at + 1:]


class KindsTextTest(Case):
    def test_texts(self):
        self.assertEqual(kinds_text(KINDS), "grant 1, sells 2, open 0")
        self.assertEqual(kinds_text(Kinds([("a", 0)])), "a 0")

    def test_back(self):
        for text in ("a 0", "grant 1, sells 2, open 0", "a 0, b 1, c 2, d 0, e 1, f 2"):
            self.assertEqual(kinds_text(parse_kinds(text)), text)
        self.assertEqual(parse_kinds("grant 1, sells 2, open 0"), KINDS)
        self.assertEqual([type(arity) for _, arity in parse_kinds("a 1").rows], [int])

    def test_text(self):
        for thing in NO_TEXTS:
            self.refuses((BadText, 0, "text"), parse_kinds, thing)

    def test_word(self):
        for text in ("", " ", "a", "a  1", " a 1", "a 1 ", "a 1,", "a 1, ", "a 1,b 1", "a 1,  b 1", "a 3", "a 01",
                     "a -1", "a b", "A 1", "1 a", "abcdefg 1", "a 1\n", "a 1, b", "a 1, b 1 1", "a\t1",
                     "a \u0661", "a \u00b2", "year 1, b 3", "a 1 , b 1", "a 1; b 1"):
            self.refuses((BadText, 0, "word"), parse_kinds, text)

    def test_kinds(self):
        for text in ("year 1", "a 1, a 1", "a 1, b 0, a 2", "a 0, b 0, c 0, d 0, e 0, f 0, g 0"):
            self.refuses((BadText, 0, "kinds"), parse_kinds, text)
        self.refuses((BadText, 0, "word"), parse_kinds, "year 1, a")

    def test_one_sign_more_or_less(self):
        for text in edited("ab 1, b 0"):
            try:
                kinds = parse_kinds(text)
            except BadText as error:
                self.assertEqual(error.row, 0)
            else:
                self.assertEqual(kinds_text(kinds), text)


class HistoryTextTest(Case):
    def test_texts(self):
        self.assertEqual(history_text(History(KINDS)), "")
        self.assertEqual(history_text(History(KINDS, [[]])), "-")
        self.assertEqual(history_text(History(KINDS, [[], []])), "-\n-")
        history = History(KINDS, [[("grant", "ann"), ("sells", "ann", "bob")], [], [("open",)]])
        self.assertEqual(history_text(history), "grant ann; sells ann bob\n-\nopen")

    def test_back(self):
        for text in ("", "-", "-\n-", "grant ann; sells ann bob\n-\nopen", "open; open; open", "grant grant"):
            self.assertEqual(history_text(parse_history(KINDS, text)), text)
        for seed in range(200):
            history = random_history(seed, random_custom(seed).kinds)
            again = parse_history(history.kinds, history_text(history))
            self.assertEqual(again, history)
            self.is_tuple_throughout(again.years)

    def test_text(self):
        for thing in NO_TEXTS:
            self.refuses((BadText, 0, "text"), parse_history, KINDS, thing)

    def test_row(self):
        for text in ("", " ", "open ", " open", "grant  ann", "open; ", "; open", "open;  open", "open; ; open",
                     " -", "- ", "open ; open"):
            self.refuses((BadText, 1, "row"), parse_history, KINDS, "open\n" + text)
            self.refuses((BadText, 2, "row"), parse_history, KINDS, "open\n-\n" + text + "\nopen")
        self.refuses((BadText, 0, "row"), parse_history, KINDS, " ")
        self.refuses((BadText, 0, "row"), parse_history, KINDS, "\n")
        self.refuses((BadText, 1, "row"), parse_history, KINDS, "-\n")

    def test_deed(self):
        for text in ("shut", "year", "open ann", "grant", "grant ann bob", "sells ann", "grant Ann", "grant ann;",
                     "open;open", "-; open", "open; -", "--", "open,open", "grant\tann", "open\r", "grant nobodyy"):
            self.refuses((BadText, 1, "deed"), parse_history, KINDS, "open\n" + text)
            self.refuses((BadText, 0, "deed"), parse_history, KINDS, text + "\nopen")

    def test_row_by_row(self):
        self.refuses((BadText, 0, "deed"), parse_history, KINDS, "shut\nopen ")
        self.refuses((BadText, 0, "row"), parse_history, KINDS, "shut; open \nshut")
        self.refuses((BadText, 0, "row"), parse_history, KINDS, "open \nshut")

    def test_other_kinds(self):
        self.refuses((BadText, 0, "deed"), parse_history, Kinds([("grant", 2)]), "grant ann")

    def test_too_long(self):
        self.assertEqual(len(parse_history(KINDS, "\n".join(["-"] * MOST_YEARS))), MOST_YEARS)
        self.refuses((BadHistory, 0, 0, "many"), parse_history, KINDS, "\n".join(["-"] * (MOST_YEARS + 1)))
        text = "; ".join(["open"] * MOST_DEEDS)
        self.assertEqual(parse_history(KINDS, text).deed_count, MOST_DEEDS)
        self.refuses((BadHistory, 0, 0, "many"), parse_history, KINDS, text + "; open")

    def test_one_sign_more_or_less(self):
        kinds = Kinds([("ab", 0), ("b", 1), ("a", 2)])
        for text in edited("ab; a b a\n-\nb b"):
            try:
                history = parse_history(kinds, text)
            except BadText as error:
                self.assertIn(error.what, ("row", "deed"))
            else:
                self.assertEqual(history_text(history), text)


if __name__ == "__main__":
    unittest.main()
