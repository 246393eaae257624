import itertools
import unittest

from searchback.errors import BadPaper, BadPerson, BadStand, NoRow
from searchback.plans import Gets, Keeps, Loses, Never
from searchback.stand import Stand
from tests.helpers import NO_LABELS, NO_SEQUENCES, NO_WHOLES, Case, Odd

STAND = Stand("r", ["x", "a"], [(1, True)])
DEEDS = [["own", "x"], ("push",), ("pass", "x", "b")]
# For each class right arguments, and for each argument and each column of its rows what it has to be.
PAPERS = {
    Keeps: ((3, [[STAND, 0, DEEDS], (STAND, 2, ())]), ("whole", "rows"), ("stand", "whole", "deeds")),
    Loses: ((3, 2, [[STAND, 0, 1, DEEDS, True], (STAND, 2, 9, (), False)]), ("whole", "whole", "rows"),
            ("stand", "whole", "years", "deeds", "bool")),
    Gets: ((2, [[STAND, 1, DEEDS], (STAND, 2, ())]), ("whole", "rows"), ("stand", "years", "deeds")),
    Never: (([[STAND, DEEDS], (STAND, ())],), ("rows",), ("stand", "deeds")),
}
NO_DEEDS = [
    *NO_SEQUENCES, [()], [[]], [("x", "a"), ("x", "a", "b", "c")], ["x"], [None], ["own", ("x",)], [{"x": 1}],
    *[[("push",), (label, "a")] for label in NO_LABELS], *[[("push",), ("x", "a", label)] for label in NO_LABELS],
]
BAD = {
    "whole": [*NO_WHOLES, -1, -9], "years": [*NO_WHOLES, -1, 0], "stand": [None, Odd(), STAND.code, "r", 0],
    "bool": [None, 0, 1, "", "True", (), Odd()], "deeds": NO_DEEDS,
    "rows": [*NO_SEQUENCES, [()], [None], [3], ["abc"], ["ab"], [STAND]],
}


class PapersTest(Case):
    def test_attributes(self):
        keeps = Keeps(*PAPERS[Keeps][0])
        deeds = (("own", "x"), ("push",), ("pass", "x", "b"))
        self.assertEqual((keeps.rest, keeps.rows), (3, ((STAND, 0, deeds), (STAND, 2, ()))))
        loses = Loses(*PAPERS[Loses][0])
        self.assertEqual((loses.rest, loses.years), (3, 2))
        self.assertEqual(loses.rows, ((STAND, 0, 1, deeds, True), (STAND, 2, 9, (), False)))
        gets = Gets(*PAPERS[Gets][0])
        self.assertEqual((gets.years, gets.rows), (2, ((STAND, 1, deeds), (STAND, 2, ()))))
        never = Never(*PAPERS[Never][0])
        self.assertEqual(never.rows, ((STAND, deeds), (STAND, ())))
        for paper in (keeps, loses, gets, never):
            self.is_tuple_throughout(paper.rows)

    def test_papers_without_rows_and_of_great_numbers(self):
        self.assertEqual((Keeps(0, ()).rows, Loses(0, 0, []).rows, Gets(0, []).rows, Never(()).rows), ((), (), (), ()))
        self.assertEqual(Keeps(10 ** 30, [(STAND, 10 ** 30, ())]).rows[0][1], 10 ** 30)
        self.assertEqual(Loses(9, 10 ** 30, [(STAND, 10 ** 30, 10 ** 30, (), True)]).years, 10 ** 30)
        self.assertEqual(Gets(10 ** 30, [(STAND, 10 ** 30, ())]).years, 10 ** 30)

    def test_refused_arguments(self):
        for title, (args, kinds, _) in PAPERS.items():
            for place, kind in enumerate(kinds):
                for bad in BAD[kind]:
                    changed = [*args]
                    changed[place] = bad
                    self.refuses((BadPaper,), title, *changed)

    def test_refused_rows(self):
        for title, (args, _, columns) in PAPERS.items():
            for row in range(2):
                for place, kind in enumerate(columns):
                    for bad in BAD[kind]:
                        rows = [list(one) for one in args[-1]]
                        rows[row][place] = bad
                        self.refuses((BadPaper,), title, *args[:-1], rows)
                for bad in (args[-1][row][:-1], (*args[-1][row], 0), None, "abcde"[:len(columns)]):
                    rows = list(args[-1])
                    rows[row] = bad
                    self.refuses((BadPaper,), title, *args[:-1], rows)

    def test_keeps_nothing(self):
        for title, (args, _, _) in PAPERS.items():
            rows = [[[list(deed) for deed in cell] if isinstance(cell, (list, tuple)) else cell for cell in row]
                    for row in args[-1]]
            paper = title(*args[:-1], rows)
            before = paper.rows
            for row in rows:
                for cell in row:
                    if isinstance(cell, list):
                        for deed in cell:
                            deed.clear()
                        cell.clear()
                row.clear()
            rows.clear()
            self.assertIs(paper.rows, before)
            self.assertEqual(paper.rows, title(*args).rows)


class LookingUpTest(Case):
    def setUp(self):
        # The person is x; a and b sit, c, d and q do not.
        told = Stand("r", ["a", "x", "b"])
        own = [("pass", "x", "b"), ("pass", "x", "q"), ("own", "x"), ("pass", "x", "c"), ("pass", "x", "a"), ("pass", "x", "q")]
        others = [("push",), ("pass", "c", "x"), ("own", "b"), ("pass", "a", "q"), ("own", "c")]
        self.keeps = Keeps(0, [(told, 0, own), (told, 0, ())])
        self.gets = Gets(1, [(told, 1, own), (told, 1, ())])
        self.loses = Loses(3, 4, [(told, 1, 4, others, True), (told, 1, 3, (), False), (told, 0, 2, own[2:3], False)])
        self.never = Never([(told, others), (told, ())])

    def test_called_as_in_the_marked_stand(self):
        stand = Stand("r", ["a", "x", "b"])
        own = (("pass", "x", "b"), ("pass", "x", "c"), ("own", "x"), ("pass", "x", "d"), ("pass", "x", "a"), ("pass", "x", "c"))
        others = (("push",), ("pass", "c", "x"), ("own", "b"), ("pass", "a", "d"), ("own", "c"))
        self.assertEqual(self.keeps.own_row(stand, "x"), own)
        self.assertEqual(self.gets.own_row(stand, "x"), own)
        self.assertEqual(self.loses.others_row(stand, "x", 1), (others, True))
        self.assertEqual(self.loses.others_row(stand, "x", 0), ((("own", "x"),), False))
        self.assertEqual(self.never.others_row(stand, "x"), others)

    def test_called_as_in_another_stand(self):
        stand = Stand("r", ["ann", "x", "a"])
        own = (("pass", "x", "a"), ("pass", "x", "b"), ("own", "x"), ("pass", "x", "c"), ("pass", "x", "ann"), ("pass", "x", "b"))
        others = (("push",), ("pass", "b", "x"), ("own", "a"), ("pass", "ann", "c"), ("own", "b"))
        self.assertEqual(self.keeps.own_row(stand, "x"), own)
        self.assertEqual(self.gets.own_row(stand, "x"), own)
        self.assertEqual(self.loses.others_row(stand, "x", 1), (others, True))
        self.assertEqual(self.never.others_row(stand, "x"), others)
        for row in (self.keeps.own_row(stand, "x"), *self.loses.others_row(stand, "x", 1)[:1]):
            self.is_tuple_throughout(row)

    def test_another_person_is_looked_up_as_marked_by_it(self):
        marked = Stand("r", ["a", "b", "b"])
        keeps = Keeps(0, [(marked, 0, [("pass", "b", "a"), ("pass", "b", "c"), ("own", "d")])])
        self.assertEqual(keeps.own_row(Stand("r", ["q", "b", "b"]), "b"), (("pass", "b", "q"), ("pass", "b", "a"), ("own", "c")))
        self.refuses((NoRow,), keeps.own_row, Stand("r", ["q", "b", "b"]), "q")

    def test_a_person_who_does_not_sit(self):
        never = Never([(Stand("r", ["a", None]), [("own", "a"), ("pass", "b", "x"), ("own", "c")])])
        self.assertEqual(never.others_row(Stand("r", ["b", None]), "x"), (("own", "b"), ("pass", "a", "x"), ("own", "c")))
        # The first labels left are those that neither sit nor are the person's.
        never = Never([(Stand("r", ["b", None]), [("own", "b"), ("pass", "c", "a"), ("own", "d")])])
        self.assertEqual(never.others_row(Stand("r", ["c", None]), "a"), (("own", "c"), ("pass", "b", "a"), ("own", "d")))

    def test_errors_in_order(self):
        calls = [self.keeps.own_row, self.gets.own_row, self.never.others_row, lambda *args: self.loses.others_row(*args, 1)]
        for call in calls:
            for bad in (None, Odd(), ("r", ("x",), ()), "r", 0):
                self.refuses((BadStand, "stand"), call, bad, None)
            for person in NO_LABELS:
                self.refuses((BadPerson, person), call, Stand("s", ["x"]), person)
            for stand in (Stand("s", ["a", "x", "b"]), Stand("r", ["a", "x", "a"]), Stand("r", ["a", "x", "b"], [(0, True)])):
                self.refuses((NoRow,), call, stand, "x")
            self.refuses((NoRow,), call, Stand("r", ["a", "x", "b"]), "a")
        for hindered in (2, 3, 10 ** 9):
            self.refuses((NoRow,), self.loses.others_row, Stand("r", ["a", "x", "b"]), "x", hindered)

    def test_renamed_alike(self):
        stand = Stand("r", ["a", "x", "b"])
        row = self.keeps.own_row(stand, "x")
        for one, other in itertools.permutations(("a", "b", "c", "zed"), 2):
            renamed = self.keeps.own_row(Stand("r", [one, "x", other]), "x")
            fresh = [label for label in "abcd" if label not in (one, other)]
            names = {"a": one, "b": other, "c": fresh[0], "d": fresh[1], "x": "x"}
            self.assertEqual(renamed, tuple((deed[0], *[names[label] for label in deed[1:]]) for deed in row))


if __name__ == "__main__":
    unittest.main()
