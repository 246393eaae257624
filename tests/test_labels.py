import itertools
import unittest

from searchback.labels import fresh_labels, is_label, is_sequence, is_whole, label_at
from tests.helpers import NO_LABELS, NO_SEQUENCES, NO_WHOLES, Case

LETTERS = "abcdefghijklmnopqrstuvwxyz"


class WholeTest(Case):
    def test_both_ends_are_included(self):
        self.assertEqual([is_whole(number, 2, 4) for number in range(7)], [False, False, True, True, True, False, False])
        self.assertIs(is_whole(3, 3, 3), True)
        self.assertIs(is_whole(3, 4, 2), False)
        self.assertIs(is_whole(-5, -5, 10 ** 20), True)
        self.assertIs(is_whole(10 ** 20, -5, 10 ** 20), True)

    def test_other_things_are_none(self):
        for thing in NO_WHOLES:
            self.assertIs(is_whole(thing, 0, 10), False, thing)
            self.assertIs(is_whole(thing, -10, 10), False, thing)


class LabelTest(Case):
    def test_labels(self):
        for thing in ("a", "z", "ab", "abcdef", "zzzzzz", "year", "first"):
            self.assertIs(is_label(thing), True, thing)

    def test_every_sign_alone(self):
        for code in range(400):
            self.assertIs(is_label(chr(code)), chr(code) in LETTERS, code)
            self.assertIs(is_label("a" + chr(code) + "b"), chr(code) in LETTERS, code)

    def test_no_labels(self):
        for thing in NO_LABELS:
            self.assertIs(is_label(thing), False, thing)

    def test_sequences(self):
        for thing in ([], (), [1], ("a", []), [[]]):
            self.assertIs(is_sequence(thing), True, thing)
        for thing in NO_SEQUENCES:
            self.assertIs(is_sequence(thing), False, thing)


class LabelAtTest(Case):
    def test_the_named_ones(self):
        told = {0: "a", 1: "b", 25: "z", 26: "aa", 27: "ab", 51: "az", 52: "ba", 701: "zz", 702: "aaa",
                18277: "zzz", 18278: "aaaa", 475253: "zzzz", 475254: "aaaaa", 12356629: "zzzzz",
                12356630: "aaaaaa", 321272404: "zzzzzy", 321272405: "zzzzzz"}
        for index, label in told.items():
            self.assertEqual(label_at(index), label)

    def test_in_order(self):
        rows = [letters for many in (1, 2, 3) for letters in itertools.product(LETTERS, repeat=many)]
        for index, letters in enumerate(rows):
            self.assertEqual(label_at(index), "".join(letters))

    def test_all_are_labels_of_rising_order(self):
        last = ""
        for index in range(0, 321272406, 1234567):
            label = label_at(index)
            self.assertTrue(is_label(label))
            self.assertLess((len(last), last), (len(label), label))
            last = label


class FreshLabelsTest(Case):
    def test_the_first_that_are_not_taken(self):
        self.assertEqual(fresh_labels([], 0), ())
        self.assertEqual(fresh_labels((), 3), ("a", "b", "c"))
        self.assertEqual(fresh_labels(["b", "zz", "a", "d"], 3), ("c", "e", "f"))
        self.assertEqual(fresh_labels(["b", "b"], 2), ("a", "c"))
        self.assertEqual(fresh_labels(list(LETTERS), 2), ("aa", "ab"))

    def test_many(self):
        found = fresh_labels(("c", "aa", "xyz"), 1000)
        self.assertIs(type(found), tuple)
        self.assertEqual(len(found), 1000)
        rows = [label_at(index) for index in range(1003)]
        self.assertEqual(found, tuple([label for label in rows if label not in ("c", "aa", "xyz")][:1000]))

    def test_what_is_taken_stays(self):
        taken = ["a", "c"]
        self.assertEqual(fresh_labels(taken, 2), ("b", "d"))
        self.assertEqual(taken, ["a", "c"])


if __name__ == "__main__":
    unittest.main()
