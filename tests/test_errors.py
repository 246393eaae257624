import copy
import pickle
import unittest

from searchback import errors
from tests.helpers import Case, Odd

SHAPES = {
    "BadKinds": "index what", "NoKind": "name", "BadHistory": "year index what", "BadYears": "years",
    "OtherKinds": "", "BadMap": "what", "BadPerson": "person", "BadText": "row what", "BadStand": "what",
    "BadDeed": "what", "BadCondition": "what", "BadChange": "what", "BadClause": "index what",
    "BadCustom": "index what", "BadQuestion": "what", "TooMany": "count", "BadSeat": "seat", "BadClock": "clock",
    "NoClause": "index", "BadShape": "what", "BadSpot": "index", "NoStand": "", "BadLikeness": "what",
    "BadIndex": "index", "BadPair": "what", "BadHeights": "index what", "NoPair": "", "BadPasts": "what",
    "BadRings": "what", "BadTurns": "turns", "BadEntry": "what", "BadAbstract": "year what", "BadBook": "what",
    "BadShelf": "index what", "BadRound": "index what", "BadRest": "rest", "BadPaper": "", "NoRow": "",
    "OtherSeats": "", "BadDocket": "what", "NoYear": "year", "YearIsShut": "year", "YearIsNotShut": "year",
    "NoPlace": "place", "NoNews": "number", "Overfull": "what", "BadLog": "", "TooLoose": "count",
    "BadAmendment": "what", "BadPool": "index what", "BadLot": "what", "Clash": "first second",
    "NotParted": "lot",
}
THINGS = [None, True, 0, -7, 10 ** 30, 1.5, "", "word", b"x", [1, [2]], (), {"a": []}, {3}, Odd(), Odd, len]


class ErrorsTest(Case):
    def test_just_these_classes(self):
        found = {name for name, thing in vars(errors).items() if isinstance(thing, type)}
        self.assertEqual(found, {*SHAPES, "SearchError"})

    def test_bases(self):
        self.assertEqual(errors.SearchError.__bases__, (ValueError,))
        for name in SHAPES:
            self.assertEqual(getattr(errors, name).__bases__, (errors.SearchError,), name)

    def test_attributes_keep_every_thing(self):
        for name, shape in SHAPES.items():
            words = shape.split()
            for index in range(len(THINGS)):
                things = [THINGS[(index + place) % len(THINGS)] for place in range(len(words))]
                made = getattr(errors, name)(*things)
                for word, thing in zip(words, things):
                    self.assertIs(getattr(made, word), thing, name)

    def test_attributes_in_their_order(self):
        for name, shape in SHAPES.items():
            words = shape.split()
            made = getattr(errors, name)(*range(len(words)))
            self.assertEqual(vars(made), dict(zip(words, range(len(words)))), name)
            named = getattr(errors, name)(**dict(zip(words, range(len(words)))))
            self.assertEqual(vars(named), vars(made), name)

    def test_caught_by_the_bases_alone(self):
        made = {name: getattr(errors, name)(*shape.split()) for name, shape in SHAPES.items()}
        for name, error in made.items():
            self.assertIsInstance(error, errors.SearchError)
            self.assertIsInstance(error, ValueError)
            for other in SHAPES:
                self.assertEqual(isinstance(error, getattr(errors, other)), name == other)
            for strange in (TypeError, LookupError, ArithmeticError, RuntimeError):
                self.assertNotIsInstance(error, strange)
            with self.assertRaises(errors.SearchError) as caught:
                raise error
            self.assertIs(caught.exception, error)
            with self.assertRaises(ValueError):
                raise error

    def test_search_error_with_any_number_of_things(self):
        for many in range(12):
            made = errors.SearchError(*THINGS[:many])
            self.assertIsInstance(made, ValueError)
            for name in SHAPES:
                self.assertNotIsInstance(made, getattr(errors, name))
            with self.assertRaises(errors.SearchError):
                raise made

    def test_can_be_shown_and_copied(self):
        for name, shape in SHAPES.items():
            made = getattr(errors, name)(*shape.split())
            self.assertIsInstance(str(made), str)
            self.assertEqual(vars(copy.copy(made)), vars(made))
            self.assertEqual(vars(pickle.loads(pickle.dumps(made))), vars(made))


if __name__ == "__main__":
    unittest.main()
