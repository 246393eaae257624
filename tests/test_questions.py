import unittest

from searchback.customs import Custom
from searchback.errors import BadQuestion, BadStand
from searchback.kinds import Kinds
from searchback.questions import Filled, Question, Reached, Room, Together, Who
from searchback.stand import Stand
from tests.helpers import NO_LABELS, NO_WHOLES, SEATLESS, Case

CUSTOM = Custom(Kinds([("open", 0)]), ["calm", "suit"], ["owner", "heir"], [("idle", 3, True), ("age", 40, True)], [])
NARROW = Custom(Kinds([("open", 0)]), ["calm"], ["heir"], [], [])
QUESTIONS = [
    lambda: Who("owner"), lambda: Filled("owner"), lambda: Together("owner", "heir"), lambda: Together("heir", "owner"),
    lambda: Reached("idle", 2), lambda: Reached("age", 2), lambda: Reached("idle", 3), Room, lambda: Who("heir"),
    lambda: Filled("heir"), lambda: Together("agent", "heir"), lambda: Together("owner", "agent"),
]
POSSIBLE = QUESTIONS[:-2]


class QuestionTest(Case):
    def test_attributes(self):
        self.assertEqual(vars(Who("owner")), {"seat": "owner"})
        self.assertEqual(vars(Filled("owner")), {"seat": "owner"})
        self.assertEqual(vars(Together("owner", "heir")), {"seat": "owner", "other": "heir"})
        self.assertEqual(vars(Reached("first", 40)), {"clock": "first", "number": 40})
        self.assertEqual(vars(Room()), {})

    def test_seats(self):
        for thing in (*NO_LABELS, *SEATLESS):
            self.refuses((BadQuestion, "seat"), Who, thing)
            self.refuses((BadQuestion, "seat"), Filled, thing)
            self.refuses((BadQuestion, "seat"), Together, thing, "a")
            self.refuses((BadQuestion, "seat"), Together, "a", thing)
        self.refuses((BadQuestion, "seat"), Together, "a", "a")

    def test_clock_and_number(self):
        for thing in NO_LABELS:
            self.refuses((BadQuestion, "clock"), Reached, thing, 0)
        for thing in (*NO_WHOLES, 0, -1, 41):
            self.refuses((BadQuestion, "number"), Reached, "a", thing)
        self.assertEqual([Reached("a", number).number for number in (1, 40)], [1, 40])

    def test_bases_and_methods(self):
        for make in QUESTIONS:
            self.assertIsInstance(make(), Question)
            for name in ("fault", "of", "__eq__"):
                self.assertIn(name, vars(type(make())))
        self.assertIn("__eq__", vars(Question))

    def test_equal_by_class_and_attributes(self):
        for index, make in enumerate(QUESTIONS):
            self.same_only(make, [*[other() for at, other in enumerate(QUESTIONS) if at != index], Question()])

    def test_a_class_of_the_same_name_is_another_class(self):
        for name in ("Who", "Room", "Question"):
            other = type(name, (), {"seat": "owner"})()
            self.assertFalse(Who("owner") == other or Room() == other or Question() == other)

    def test_fault(self):
        for make in POSSIBLE:
            self.assertIsNone(make().fault(CUSTOM))
        self.assertEqual(Who("agent").fault(CUSTOM), "seat")
        self.assertEqual(Filled("agent").fault(CUSTOM), "seat")
        self.assertEqual(Together("agent", "heir").fault(CUSTOM), "seat")
        self.assertEqual(Together("heir", "agent").fault(CUSTOM), "seat")
        self.assertEqual(Who("idle").fault(CUSTOM), "seat")
        self.assertEqual(Reached("owner", 40).fault(CUSTOM), "clock")
        self.assertEqual(Reached("idle", 4).fault(CUSTOM), "number")
        self.assertIsNone(Reached("age", 40).fault(CUSTOM))
        self.assertEqual(Reached("idle", 1).fault(NARROW), "clock")
        self.assertIsNone(Room().fault(NARROW))

    def test_answers(self):
        stand = Stand("suit", ["ann", None], [(2, False), (40, True)])
        told = [(Who("owner"), "ann"), (Who("heir"), None), (Room(), "suit"), (Filled("owner"), True),
                (Filled("heir"), False), (Together("owner", "heir"), False), (Reached("idle", 1), True),
                (Reached("idle", 2), True), (Reached("idle", 3), False), (Reached("age", 40), True)]
        for question, answer in told:
            found = question.of(CUSTOM, stand)
            self.assertIs(type(found), type(answer))
            self.assertEqual(found, answer)
        for seats, answer in ((["a", "a"], True), (["a", "b"], False), ([None, "b"], False), ([None, None], True)):
            stand = Stand("calm", seats, [(0, True), (0, True)])
            self.assertIs(Together("owner", "heir").of(CUSTOM, stand), answer)
            self.assertIs(Together("heir", "owner").of(CUSTOM, stand), answer)

    def test_of_refuses(self):
        good = CUSTOM.start
        self.refuses((BadQuestion, "seat"), Who("agent").of, CUSTOM, None)
        self.refuses((BadQuestion, "seat"), Filled("agent").of, CUSTOM, None)
        self.refuses((BadQuestion, "seat"), Together("heir", "agent").of, CUSTOM, good)
        self.refuses((BadQuestion, "clock"), Reached("heir", 1).of, CUSTOM, None)
        self.refuses((BadQuestion, "number"), Reached("idle", 4).of, CUSTOM, None)
        for make in POSSIBLE:
            self.refuses((BadStand, "stand"), make().of, CUSTOM, None)
            self.refuses((BadStand, "room"), make().of, CUSTOM, Stand("free", ["a"]))
            self.refuses((BadStand, "seats"), make().of, CUSTOM, Stand("calm", ["a"]))
            self.refuses((BadStand, "clocks"), make().of, CUSTOM, Stand("calm", ["a", "b"]))
            self.refuses((BadStand, "number"), make().of, CUSTOM, Stand("calm", ["a", "b"], [(4, True), (0, True)]))


if __name__ == "__main__":
    unittest.main()
