"""The names, arguments and methods of the interface, each in the file under which it stands."""

import importlib
import inspect
import types
import unittest

# For each file its functions, and its classes with their arguments and what they define themselves.
FUNCTIONS = {
    "labels": ["is_whole(thing, low, high)", "is_label(thing)", "is_sequence(thing)", "label_at(index)",
               "fresh_labels(taken, many)"],
    "histories": ["map_fault(names, persons)"],
    "historytext": ["kinds_text(kinds)", "parse_kinds(text)", "history_text(history)", "parse_history(kinds, text)"],
    "customtext": ["custom_text(custom)", "parse_custom(text)"],
    "scenes": ["fitting_scene(custom, index)", "acting_scene(custom, index)", "differing_scene(one, other)",
               "never_acting(custom)"],
    "bearing": ["what_bears(custom, question, *more)", "narrowed(custom, question, *more)"],
    "walks": ["stand_at(custom, history, years=None)", "answer_of(custom, history, question, years=None)",
              "answers_through(custom, history, question)", "steps_of(custom, history)",
              "led_on(custom, stand, history)"],
    "chains": ["chain_of(custom, history, seat)", "root_of(custom, history, seat)", "terms_of(custom, history, seat)",
               "counted_years(custom, history, clock)"],
    "leaner": ["void_deeds(custom, history)", "without_deeds(history, spots)", "spare_deeds(custom, history)",
               "lean_history(custom, history)"],
}
PIECES = {
    "InRoom": "(room)", "NotInRoom": "(room)", "Is": "(seat, what)", "IsNot": "(seat, what)", "SamePerson": "()",
    "Apart": "()", "AtLeast": "(clock, number)", "Below": "(clock, number)",
}
CHANGES = {"ToRoom": "(room)", "Put": "(seat, what)", "Zero": "(clock)", "Run": "(clock)", "Halt": "(clock)"}
QUESTIONS = {"Who": "(seat)", "Room": "()", "Filled": "(seat)", "Together": "(seat, other)", "Reached": "(clock, number)"}
CLASSES = {
    "kinds": {"Kinds": ("(rows)", ["arity_of(self, name)", "fault(self, deed)", "__eq__", "__len__", "__iter__",
                                   "__contains__"], [])},
    "histories": {"History": ("(kinds, years=())", [
        "first(self, years)", "last(self, years)", "joined(self, other)", "then_year(self, *deeds)",
        "renamed(self, names)", "agrees(self, other, years)", "beginnings(self)", "__eq__", "__len__", "__iter__"],
        ["persons", "deed_count"])},
    "stand": {"Stand": ("(room, seats, clocks=())", ["renamed(self, names)", "__eq__"], ["code", "persons"])},
    "clauses": {
        "Condition": ("()", ["__eq__"], []), "Change": ("()", ["__eq__"], []),
        **{name: (shape, ["opposite(self)", "__eq__"], []) for name, shape in PIECES.items()},
        **{name: (shape, ["__eq__"], []) for name, shape in CHANGES.items()},
        "Clause": ("(kind, conditions=(), changes=())", ["with_condition(self, condition)", "split(self, condition)",
                                                         "__eq__"], ["arity"])},
    "customs": {"Custom": ("(kinds, rooms, seats, clocks, clauses)", [
        "with_clauses(self, clauses)", "split(self, index, condition)", "stand_fault(self, stand)",
        "acting(self, stand, deed)", "acting_at_end(self, stand)", "after(self, stand, deed)", "ticked(self, stand)",
        "after_year(self, stand)", "__eq__", "__len__", "__iter__"], ["most_stands"])},
    "questions": {
        "Question": ("()", ["__eq__"], []),
        **{name: (shape, ["fault(self, custom)", "of(self, custom, stand)", "__eq__"], [])
           for name, shape in QUESTIONS.items()}},
    "scenes": {"Scene": ("(stand, deed)", ["__eq__"], [])},
    "bearing": {"Bears": ("(room, seats, clocks, clauses)", ["__eq__"], [])},
    "walks": {"Step": ("(year, place, deed, clause, stand)", ["__eq__"], [])},
    "chains": {"Link": ("(year, place, clause, seat, what)", ["__eq__"], []),
               "Term": ("(person, begin, end)", ["__eq__"], [])},
}
BASES = {"Condition": PIECES, "Change": CHANGES, "Question": QUESTIONS}


def module_of(name):
    return importlib.import_module("searchback." + name)


class InterfaceTest(unittest.TestCase):
    def test_functions(self):
        for name, rows in FUNCTIONS.items():
            for row in rows:
                found = getattr(module_of(name), row.partition("(")[0])
                self.assertIs(type(found), types.FunctionType)
                self.assertEqual(found.__module__, "searchback." + name)
                self.assertEqual(found.__name__ + str(inspect.signature(found)), row)

    def test_classes(self):
        for name, rows in CLASSES.items():
            for title, (shape, methods, properties) in rows.items():
                found = getattr(module_of(name), title)
                self.assertEqual(found.__module__, "searchback." + name)
                self.assertEqual(found.__name__, title)
                self.assertEqual(str(inspect.signature(found)), shape, title)
                for row in methods:
                    method = vars(found)[row.partition("(")[0]]
                    self.assertIs(type(method), types.FunctionType)
                    if "(" in row:
                        self.assertEqual(method.__name__ + str(inspect.signature(method)), row)
                for row in properties:
                    self.assertIs(type(vars(found)[row]), property)

    def test_bases(self):
        for base, rows in BASES.items():
            module = module_of("questions" if base == "Question" else "clauses")
            for name in rows:
                self.assertEqual(getattr(module, name).__bases__, (getattr(module, base),))

    def test_the_class_method(self):
        history = module_of("histories").History
        self.assertIs(type(vars(history)["from_years"]), classmethod)
        self.assertEqual(str(inspect.signature(history.from_years)), "(kinds, *years)")

    def test_generators(self):
        self.assertTrue(inspect.isgeneratorfunction(module_of("histories").History.beginnings))
        self.assertTrue(inspect.isgeneratorfunction(module_of("walks").steps_of))


if __name__ == "__main__":
    unittest.main()
