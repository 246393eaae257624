"""The names, arguments and methods of the interface, each in the file under which it stands."""

import importlib
import inspect
import types
import unittest

# For each file its functions, and its classes with their arguments and what they define themselves.
FUNCTIONS = {
    "labels": ["is_whole(thing, low, high)", "is_label(thing)", "is_sequence(thing)", "label_at(index)",
               "fresh_labels(taken, many)"],
    "histories": ["map_fault(names, persons)"],
    "historytext": ["kinds_text(kinds)", "parse_kinds(text)", "history_text(history)", "parse_history(kinds, text)"],
    "customtext": ["custom_text(custom)", "parse_custom(text)"],
    "scenes": ["fitting_scene(custom, index)", "acting_scene(custom, index)", "differing_scene(one, other)",
               "never_acting(custom)"],
    "bearing": ["what_bears(custom, question, *more)", "narrowed(custom, question, *more)"],
    "walks": ["stand_at(custom, history, years=None)", "answer_of(custom, history, question, years=None)",
              "answers_through(custom, history, question)", "steps_of(custom, history)",
              "led_on(custom, stand, history)"],
    "chains": ["chain_of(custom, history, seat)", "root_of(custom, history, seat)", "terms_of(custom, history, seat)",
               "counted_years(custom, history, clock)"],
    "leaner": ["void_deeds(custom, history)", "without_deeds(history, spots)", "spare_deeds(custom, history)",
               "lean_history(custom, history)"],
    "patterns": ["plain_names(stand)", "plain_stand(stand)", "all_stands(custom)", "stand_place(custom, stand)",
                 "stand_at_place(custom, place)", "deeds_over(kinds, persons)"],
    "stands": ["coming_stands(custom)", "stands_after(custom, years)", "leaving(custom, stands)"],
    "likeness": ["likenesses(first, second)", "likeness_count(first, second, *, linked=None)",
                 "likeness_index(likeness)", "likeness_at(first, second, index)", "likeness_of(one, other)",
                 "joined_stands(one, other, likeness)", "together(custom, one, other, likeness)"],
    "pairs": ["most_pairs(one, other)", "led_pair(custom, pair, deed)", "ended_pair(custom, pair)",
              "is_unlike(custom, pair, question, *more)", "beginning_pairs(custom)"],
    "heights": ["heights_fault(custom, heights, question, *more, without=())"],
    "pasts": ["pasts_fault(custom, pasts, question, *more, without=())",
              "rings_fault(custom, rings, question, *more, without=())"],
    "searching": ["search_years(custom, question, *more, without=())",
                  "years_left(custom, one, other, question, *more, without=())",
                  "falling_counts(custom, question, *more, without=())",
                  "searching(custom, question, *more, without=())",
                  "pasts_for(custom, years, question, *more, without=())",
                  "found_fault(custom, found, question, *more, without=())"],
    "entries": ["entry_within(kinds, one, other)"],
    "abstracts": ["abstract_of(history, years=None)"],
    "layers": ["placings(custom, named)", "layers_of(custom, abstract)"],
    "fillings": ["answers_of(custom, abstract, question)", "filling_for(custom, abstract, question, answer)",
                 "sure_answer(custom, abstract, question)"],
    "surejudge": ["sure_fault(custom, abstract, question, result)"],
    "books": ["year_books(history)", "kind_books(history)", "noted_of(history, books, *, whole=False)",
              "least_books(custom, history, question, books, *, whole=False)",
              "needed_books(custom, history, question, books, *, whole=False)",
              "enough_years(custom, history, question)"],
    "steady": ["steady_years(custom, entry, question)"],
    "rounds": ["marked_stand(stand, person)", "marked_stands(custom, person)", "others_deeds(custom, stand, person)",
               "own_deeds(custom, stand, person)", "ends_of_rounds(custom, stand, person, rounds)"],
    "keeping": ["keeping(custom, stand, seat, person, *, rest=0)", "kept_stands(custom, seat, person, *, rest=0)",
                "greatest_rest(custom, stand, seat, person)"],
    "getting": ["getting(custom, stand, seat, person)"],
    "planfaults": ["keeping_fault(custom, stand, seat, person, paper, *, rest=0)",
                   "getting_fault(custom, stand, seat, person, paper)"],
    "alike": ["alike_customs(one, other, *questions)", "parting_years(one, other, *questions)",
              "covering(one, other, seat)"],
    "alikefault": ["alike_fault(one, other, questions, found)", "covers_fault(one, other, seat, found)"],
    "idle": ["idle_clauses(custom)", "acting_history(custom, index)", "dropped(custom, index)",
             "exchanged(custom, index)", "trimmed(custom)", "spare_clauses(custom, *questions)"],
    "docket": ["told_answer(docket, year, question)"],
    "latenews": ["sure_at(docket, year, question)", "settled_years(docket, question)",
                 "least_shuttings(docket, year, question)", "loose_years(docket, year, question)"],
    "margins": ["margin_of(docket, year, question)", "margin_fault(docket, year, question, margin)"],
    "lots": ["least_lots(pool, question, years, *, same=None)"],
    "lotsfault": ["lots_fault(found)", "limit_numbers(custom, clause, condition, question)"],
}
PIECES = {
    "InRoom": "(room)", "NotInRoom": "(room)", "Is": "(seat, what)", "IsNot": "(seat, what)", "SamePerson": "()",
    "Apart": "()", "AtLeast": "(clock, number)", "Below": "(clock, number)",
}
CHANGES = {"ToRoom": "(room)", "Put": "(seat, what)", "Zero": "(clock)", "Run": "(clock)", "Halt": "(clock)"}
QUESTIONS = {"Who": "(seat)", "Room": "()", "Filled": "(seat)", "Together": "(seat, other)", "Reached": "(clock, number)"}
ENTRIES = {"Known": "(deeds)", "Without": "(names)", "Unknown": "()", "Noted": "(names, deeds)", "Holding": "(deeds)"}
AMENDMENTS = {"Drop": "(clause)", "PutIn": "(place, clause)", "Limit": "(clause, condition, limit)", "Swap": "(clause)"}
TABLES = {"Alike": "(ends, moments)", "Covers": "(ends, moments)"}
CLASSES = {
    "kinds": {"Kinds": ("(rows)", ["arity_of(self, name)", "fault(self, deed)", "__eq__", "__len__", "__iter__",
                                   "__contains__"], [])},
    "histories": {"History": ("(kinds, years=())", [
        "first(self, years)", "last(self, years)", "joined(self, other)", "then_year(self, *deeds)",
        "renamed(self, names)", "agrees(self, other, years)", "beginnings(self)", "__eq__", "__len__", "__iter__"],
        ["persons", "deed_count"])},
    "stand": {"Stand": ("(room, seats, clocks=())", ["renamed(self, names)", "__eq__"], ["code", "persons"])},
    "clauses": {
        "Condition": ("()", ["__eq__"], []), "Change": ("()", ["__eq__"], []),
        **{name: (shape, ["opposite(self)", "__eq__"], []) for name, shape in PIECES.items()},
        **{name: (shape, ["__eq__"], []) for name, shape in CHANGES.items()},
        "Clause": ("(kind, conditions=(), changes=())", ["with_condition(self, condition)", "split(self, condition)",
                                                         "__eq__"], ["arity"])},
    "customs": {"Custom": ("(kinds, rooms, seats, clocks, clauses)", [
        "with_clauses(self, clauses)", "split(self, index, condition)", "stand_fault(self, stand)",
        "acting(self, stand, deed)", "acting_at_end(self, stand)", "after(self, stand, deed)", "ticked(self, stand)",
        "after_year(self, stand)", "__eq__", "__len__", "__iter__"], ["most_stands"])},
    "questions": {
        "Question": ("()", ["__eq__"], []),
        **{name: (shape, ["fault(self, custom)", "of(self, custom, stand)", "__eq__"], [])
           for name, shape in QUESTIONS.items()}},
    "scenes": {"Scene": ("(stand, deed)", ["__eq__"], [])},
    "bearing": {"Bears": ("(room, seats, clocks, clauses)", ["__eq__"], [])},
    "walks": {"Step": ("(year, place, deed, clause, stand)", ["__eq__"], [])},
    "chains": {"Link": ("(year, place, clause, seat, what)", ["__eq__"], []),
               "Term": ("(person, begin, end)", ["__eq__"], [])},
    "stands": {
        "Coming": (None, ["is_end(self, stand)", "is_moment(self, stand)", "years_to(self, stand)",
                          "years_ahead(self, stand)", "history_to(self, stand, *, exactly=None)", "way_to(self, stand)",
                          "__len__", "__iter__"], []),
        "Leaving": ("(stand, deed, behind)", ["__eq__"], [])},
    "likeness": {"Likeness": ("(first, second, links)", ["partner(self, number)", "flipped(self)", "then(self, other)",
                                                        "__len__", "__iter__", "__eq__"], ["is_full"])},
    "pairs": {"Pair": ("(one, other)", ["swapped(self)", "renamed(self, names)", "plain(self)", "__eq__"],
                       ["persons", "is_equal", "is_plain"])},
    "heights": {"Heights": ("(rows)", ["of(self, pair)", "__len__", "__iter__"], ["most"])},
    "pasts": {"Pasts": ("(one, other, years)", ["histories(self)", "__len__"], []),
              "Rings": ("(one, other, ring, tail)", ["written(self, turns)", "common_years(self, turns)",
                                                     "turns_for(self, years)", "__len__"], [])},
    "searching": {"Found": ("(years, heights, pasts)", [], []), "Endless": ("(rings)", [], [])},
    "entries": {"Entry": (None, ["lets(self, kinds, year)"], []),
                **{name: (shape, ["free(self, kinds)", "__eq__"], []) for name, shape in ENTRIES.items()}},
    "abstracts": {"Abstract": ("(kinds, years, *, whole=False)", [
        "fills(self, history)", "then_year(self, entry)", "last(self, years)", "hidden(self, *years)",
        "is_within(self, other)", "__len__", "__iter__", "__eq__"], ["persons"])},
    "fillings": {"Answers": ("(possible, others)", [], ["is_sure"]), "Sure": ("(answer, layers)", [], []),
                 "Unsure": ("(one, other)", [], [])},
    "books": {"Book": ("(years, names)", ["__eq__"], [])},
    "steady": {"Steady": ("(years, answer, layers)", [], []), "Unsteady": ("(layers)", [], [])},
    "plans": {"Keeps": ("(rest, rows)", ["own_row(self, stand, person)"], []),
              "Loses": ("(rest, years, rows)", ["others_row(self, stand, person, hindered)"], []),
              "Gets": ("(years, rows)", ["own_row(self, stand, person)"], []),
              "Never": ("(rows)", ["others_row(self, stand, person)"], [])},
    "keeping": {"Rest": ("(years)", ["allows(self, rest)", "__eq__"], []),
                "Always": ("()", ["allows(self, rest)", "__eq__"], []),
                "NoRest": ("()", ["allows(self, rest)", "__eq__"], [])},
    "closed": {"Closed": (None, ["is_moment(self, pair)", "is_end(self, pair)", "__len__", "__iter__", "__eq__"], []),
               **{name: (shape, [], []) for name, shape in TABLES.items()},
               "Parting": ("(history, question, first, second)", ["__eq__"], [])},
    "docket": {"News": ("(number, year, place, deed)", ["__eq__"], []),
               "Docket": ("(custom, years, *, ahead=False)", [
                   "news(self)", "told_history(self)", "tell(self, year, place, deed)", "take_back(self, number)",
                   "shut(self, year)", "reopen(self, year)", "trial(self)", "tried(self, call)", "do(self, row)",
                   "told_stand(self, year)", "abstract_to(self, year)", "__len__", "__iter__", "__eq__"], ["persons"])},
    "margins": {"Margin": ("(needed, example)", [], [])},
    "amendments": {"Amendment": ("()", ["fault(self, custom)", "__eq__"], ["touched"]),
                   **{name: (shape, ["fault(self, custom)", "__eq__"], ["touched"])
                      for name, shape in AMENDMENTS.items()}},
    "pools": {"Pool": ("(custom, amendments)", ["lots(self)", "clash(self, lot)", "amended(self, lot)", "__len__",
                                               "__iter__", "__eq__"], [])},
    "lots": {"Verdict": ("(lot, word, years, found, table)", ["__eq__"], []),
             "Lots": ("(pool, question, years, same, verdicts)", ["verdict_of(self, lot)", "pasts_of(self, lot)",
                                                                  "__len__", "__iter__"], ["good", "least"])},
}
BASES = {
    "Condition": ("clauses", PIECES), "Change": ("clauses", CHANGES), "Question": ("questions", QUESTIONS),
    "Entry": ("entries", ENTRIES), "Closed": ("closed", TABLES), "Amendment": ("amendments", AMENDMENTS),
}
VALUES = {"histories": {"MOST_YEARS": 10 ** 6, "MOST_DEEDS": 10 ** 6}, "abstracts": {"MOST_ENTRIES": 200, "MOST_NAMED": 8},
          "layers": {"MOST_PLACINGS": 4000}, "books": {"MOST_BOOKS": 8}}


def module_of(name):
    return importlib.import_module("searchback." + name)


class InterfaceTest(unittest.TestCase):
    def test_functions(self):
        for name, rows in FUNCTIONS.items():
            for row in rows:
                found = getattr(module_of(name), row.partition("(")[0])
                self.assertIs(type(found), types.FunctionType)
                self.assertEqual(found.__module__, "searchback." + name)
                self.assertEqual(found.__name__ + str(inspect.signature(found)), row)

    def test_classes(self):
        for name, rows in CLASSES.items():
            for title, (shape, methods, properties) in rows.items():
                found = getattr(module_of(name), title)
                self.assertEqual(found.__module__, "searchback." + name)
                self.assertEqual(found.__name__, title)
                if shape is not None:
                    self.assertEqual(str(inspect.signature(found)), shape, title)
                for row in methods:
                    method = vars(found)[row.partition("(")[0]]
                    self.assertIs(type(method), types.FunctionType)
                    if "(" in row:
                        self.assertEqual(method.__name__ + str(inspect.signature(method)), row)
                for row in properties:
                    self.assertIs(type(vars(found)[row]), property)

    def test_bases(self):
        for base, (name, rows) in BASES.items():
            module = module_of(name)
            for title in rows:
                self.assertEqual(getattr(module, title).__bases__, (getattr(module, base),))

    def test_values(self):
        for name, rows in VALUES.items():
            for title, value in rows.items():
                self.assertEqual(getattr(module_of(name), title), value)

    def test_the_class_methods(self):
        history = module_of("histories").History
        self.assertIs(type(vars(history)["from_years"]), classmethod)
        self.assertEqual(str(inspect.signature(history.from_years)), "(kinds, *years)")
        abstract = module_of("abstracts").Abstract
        self.assertIs(type(vars(abstract)["from_entries"]), classmethod)
        self.assertEqual(str(inspect.signature(abstract.from_entries)), "(kinds, *entries)")

    def test_what_stands_in_the_docket_itself(self):
        docket = module_of("docket").Docket
        self.assertIs(type(vars(docket)["replayed"]), staticmethod)
        self.assertEqual(str(inspect.signature(docket.replayed)), "(custom, years, rows, *, ahead=False)")
        self.assertEqual((vars(docket)["MOST_DEEDS"], vars(docket)["MOST_PERSONS"]), (12, 6))

    def test_generators(self):
        self.assertTrue(inspect.isgeneratorfunction(module_of("pools").Pool.lots))
        self.assertTrue(inspect.isgeneratorfunction(module_of("histories").History.beginnings))
        for name, title in [("walks", "steps_of"), ("patterns", "all_stands"), ("patterns", "deeds_over"),
                            ("likeness", "likenesses"), ("pairs", "beginning_pairs"), ("layers", "layers_of")]:
            self.assertTrue(inspect.isgeneratorfunction(getattr(module_of(name), title)))


if __name__ == "__main__":
    unittest.main()
