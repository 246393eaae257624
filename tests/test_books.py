import itertools
import unittest

from searchback.abstracts import Abstract, abstract_of
from searchback.books import (
    MOST_BOOKS, Book, enough_years, kind_books, least_books, needed_books, noted_of, year_books,
)
from searchback.clauses import AtLeast, Clause, Is, Put, Zero
from searchback.entries import Noted
from searchback.errors import BadAbstract, BadBook, BadQuestion, BadShelf, OtherKinds, TooMany
from searchback.fillings import answers_of
from searchback.histories import History
from searchback.kinds import Kinds
from searchback.questions import Filled, Reached, Room, Who
from tests.helpers import (
    NO_LABELS, NO_SEQUENCES, NO_WHOLES, Case, Odd, clocked_custom, drawn_questions, plain_custom, random_history,
    searched_customs,
)

KINDS = Kinds([("x", 1), ("y", 0)])
HISTORY = History(KINDS, [[("x", "ann"), ("y",)], [], [("y",), ("x", "bob"), ("x", "ann")]])
A, B, Y = ("x", "ann"), ("x", "bob"), ("y",)


class BookTest(Case):
    def test_attributes(self):
        book = Book([3, 0, 10 ** 20], ["y", "x"])
        self.assertEqual((book.years, book.names), ((0, 3, 10 ** 20), ("y", "x")))
        self.assertEqual((Book((), ()).years, Book((), ()).names), ((), ()))
        self.assertIs(type(book.years), tuple)

    def test_equal_by_both(self):
        self.same_only(lambda: Book([1, 0], ["x", "y"]), [
            Book([1], ["x", "y"]), Book([0, 1], ["y", "x"]), Book([0, 1], ["x"]), ((0, 1), ("x", "y"))])
        self.assertEqual(Book([1, 0], ["x"]), Book((0, 1), ("x",)))

    def test_refused(self):
        for years in (*NO_SEQUENCES, [1, 1], (0, 2, 0), *[[0, year] for year in (*NO_WHOLES, -1)]):
            self.refuses((BadBook, "years"), Book, years, None)
        for names in (*NO_SEQUENCES, ["x", "x"], *[["x", name] for name in NO_LABELS]):
            self.refuses((BadBook, "names"), Book, [0], names)

    def test_keeps_nothing(self):
        self.keeps_nothing(Book, [1, 0], ["x", "y"])

    def test_books_of_years_and_of_kinds(self):
        self.assertEqual(year_books(HISTORY), (Book([0], ["x", "y"]), Book([1], ["x", "y"]), Book([2], ["x", "y"])))
        self.assertEqual(kind_books(HISTORY), (Book([0, 1, 2], ["x"]), Book([0, 1, 2], ["y"])))
        empty = History(KINDS)
        self.assertEqual((year_books(empty), kind_books(empty)), ((), (Book([], ["x"]), Book([], ["y"]))))
        self.is_tuple_throughout(year_books(HISTORY))


class NotedTest(Case):
    def test_written_ones(self):
        none = Noted([], [])
        self.assertEqual(noted_of(HISTORY, []), Abstract(KINDS, [none, none, none]))
        self.assertEqual(noted_of(HISTORY, [Book([2], ["y", "x"]), Book([0, 2], ["x"])]), Abstract(KINDS, [
            Noted(["x"], [A]), none, Noted(["x", "y"], [Y, B, A])]))
        self.assertEqual(noted_of(HISTORY, (Book([0], ["y"]), Book([0], ["x"])), whole=True), Abstract(KINDS, [
            Noted(["x", "y"], [A, Y]), none, none], whole=True))
        self.assertEqual(noted_of(History(KINDS), kind_books(History(KINDS)), whole=True), Abstract(KINDS, [], whole=True))

    def test_the_history_fills_it(self):
        for seed, custom in searched_customs(40):
            history = random_history(seed, custom.kinds)
            books = kind_books(history)[:1]
            for whole in (False, True):
                self.assertTrue(noted_of(history, books, whole=whole).fills(history))

    def test_refused_shelves(self):
        custom = clocked_custom(1, 1, kinds=KINDS.rows)
        right = Book([0], ["x"])
        calls = [lambda shelf: noted_of(HISTORY, shelf, whole=3), lambda shelf: least_books(custom, HISTORY, Room(), shelf, whole=3),
                 lambda shelf: needed_books(custom, HISTORY, Room(), shelf, whole=3)]
        self.assertEqual(MOST_BOOKS, 8)
        for call in calls:
            for shelf in (*NO_SEQUENCES, [right] * 9):
                self.refuses((BadShelf, 0, "books"), call, shelf)
            for book in (None, 3, ((0,), ("x",)), Odd()):
                self.refuses((BadShelf, 1, "book"), call, [right, book, None])
            self.refuses((BadShelf, 1, "years"), call, [right, Book([0, 3], ["z"]), None])
            self.refuses((BadShelf, 1, "names"), call, [right, Book([0, 2], ["x", "z"]), None])
            self.refuses((BadShelf, 0, "names"), call, [Book([], ["year"])])
            self.refuses((BadAbstract, 0, "whole"), call, [right] * 8)
        self.refuses((BadShelf, 0, "years"), noted_of, History(KINDS), [Book([0], [])])

    def test_refused_abstracts(self):
        custom = clocked_custom(1, 1, kinds=KINDS.rows)
        nine = History(KINDS, [[("x", person)] for person in "abcdefghi"])
        long = History(KINDS, [[]] * 201)
        for call in (least_books, needed_books):
            self.refuses((BadAbstract, 8, "persons"), call, custom, nine, Room(), kind_books(nine))
            self.refuses((BadAbstract, 0, "many"), call, custom, long, Room(), [])
        self.refuses((BadAbstract, 8, "persons"), noted_of, nine, kind_books(nine))
        self.refuses((BadAbstract, 0, "many"), noted_of, long, [])
        self.refuses((BadAbstract, 8, "persons"), enough_years, custom, nine, Room())
        self.refuses((BadAbstract, 0, "many"), enough_years, custom, long, Room())
        self.assertEqual(least_books(custom, nine, Room(), [Book([0], ["x"])]), ((),))


def told_enough(custom, history, question, books, lot, whole):
    return answers_of(custom, noted_of(history, [books[index] for index in lot], whole=whole), question).is_sure


def shelves(seed, history):
    """Some shelves of at most four books."""
    names = history.kinds.names
    years = list(range(len(history)))
    yield kind_books(history)
    yield year_books(history)[-4:]
    yield [Book([year], [name]) for year in years for name in names][-4:]
    yield [Book(years[seed % 2::2], names), Book(years[-1:], names[:1]), Book(years[:1], names)]


class LeastTest(Case):
    def drawn(self, many):
        for seed, custom in searched_customs(many):
            history = random_history(seed, custom.kinds, 4, 2, ("ann", "bob"))
            yield seed, custom, history, drawn_questions(seed, custom)[0]

    def test_against_all_lots(self):
        met = set()
        for seed, custom, history, question in self.drawn(75):
            for whole in (False, True):
                for books in shelves(seed, history):
                    lots = [lot for many in range(len(books) + 1) for lot in itertools.combinations(range(len(books)), many)]
                    enough = [lot for lot in lots if told_enough(custom, history, question, books, lot, whole)]
                    least = [lot for lot in enough if not any(set(one) < set(lot) for one in enough)]
                    found = least_books(custom, history, question, books, whole=whole)
                    self.assertEqual(found, tuple(sorted(least, key=lambda lot: (len(lot), lot))), seed)
                    self.is_tuple_throughout(found)
                    every = set(range(len(books)))
                    needed = tuple(book for book in sorted(every) if tuple(sorted(every - {book})) not in enough)
                    self.assertEqual(needed_books(custom, history, question, books, whole=whole), needed)
                    if lots[-1] in enough:
                        self.assertEqual(set(needed), every.intersection(*[set(lot) for lot in least]))
                    else:
                        self.assertEqual((found, needed), ((), tuple(sorted(every))))
                    met.add((bool(found), found == ((),), len(found) > 1, bool(needed)))
        self.assertLessEqual({(False, False, False, True), (True, True, False, False), (True, False, False, True)}, met)

    def test_written_lots(self):
        custom = plain_custom()
        history = History(custom.kinds, [[("takes", "ann")], [("sells", "ann", "bob")], []])
        who = Who("owner")
        books = [Book([1], ["sells"]), Book([0], ["takes", "sells"]), Book([0, 1, 2], ["sells"]), Book([0, 1, 2], ["takes"])]
        self.assertEqual(least_books(custom, history, who, books, whole=True), ((1, 2), (2, 3)))
        self.assertEqual(needed_books(custom, history, who, books, whole=True), (2,))
        self.assertEqual(least_books(custom, history, who, books[:2]), ())
        self.assertEqual(needed_books(custom, history, who, books[:2]), (0, 1))
        self.assertEqual(least_books(custom, history, Room(), books), ((),))
        self.assertEqual(needed_books(custom, history, Room(), books), ())

    def test_no_book_and_eight_books(self):
        custom = plain_custom()
        history = History(custom.kinds, [[("takes", "ann")], [], [], []])
        self.assertEqual(least_books(custom, history, Room(), []), ((),))
        self.assertEqual(least_books(custom, history, Who("owner"), ()), ())
        self.assertEqual(needed_books(custom, history, Who("owner"), ()), ())
        books = [Book([year], [name]) for name in ("takes", "sells") for year in range(4)]
        # Two idle years empty the seat, since the clock shows at least 1 ahead of them.
        self.assertEqual(least_books(custom, history, Who("owner"), books), ((2, 3, 6, 7), (1, 2, 3, 5, 6)))
        self.assertEqual(needed_books(custom, history, Who("owner"), books), (2, 3, 6))
        equal = [Book(range_of, ["takes", "sells"]) for range_of in ([1, 2, 3], [0, 1, 2, 3])]
        self.assertEqual(least_books(custom, history, Who("owner"), equal), ((0,), (1,)))
        self.assertEqual(needed_books(custom, history, Who("owner"), equal), ())

    def test_fewer_first_then_as_tuples(self):
        # Each book tells one of two deeds; any two of unlike sorts are enough, or the last one alone.
        custom = clocked_custom(1, 1, kinds=[("x", 1), ("y", 1)], clauses=[
            Clause("x", [], [Put("p", "first")]), Clause("y", [], [Put("p", "first")])])
        history = History(custom.kinds, [[("y", "b"), ("x", "a")]])
        books = [Book([0], ["x"]), Book([0], ["y"]), Book([0], ["y"]), Book([0], ["x"]), Book([0], ["x", "y"])]
        self.assertEqual(least_books(custom, history, Who("p"), books), ((4,), (0, 1), (0, 2), (1, 3), (2, 3)))

    def test_a_person_whom_a_lot_does_not_name(self):
        # Without the first book, its person can be the answer, but so can anybody.
        custom = clocked_custom(1, 1, kinds=[("x", 1), ("y", 0)], clauses=[
            Clause("x", [Is("p", "nobody")], [Put("p", "first")]), Clause("y", [], [])])
        history = History(custom.kinds, [[("x", "ann")], [("x", "bob")]])
        books = year_books(history)
        self.assertEqual(least_books(custom, history, Who("p"), books, whole=True), ((0,),))
        self.assertEqual(least_books(custom, history, Filled("p"), books, whole=True), ((0,), (1,)))


class EnoughTest(Case):
    def test_against_all_numbers_of_years(self):
        met = set()
        for seed, custom in searched_customs(150):
            history = random_history(seed, custom.kinds, 7, 2, ("ann", "bob"))
            question = drawn_questions(seed, custom)[0]
            sure = [years for years in range(len(history) + 1)
                    if answers_of(custom, abstract_of(history, years), question).is_sure]
            found = enough_years(custom, history, question)
            self.assertEqual(found, min(sure, default=None), seed)
            met.add(found)
        self.assertLessEqual({None, 0, 1, 2, 3}, met)

    def test_written_numbers(self):
        custom = plain_custom()
        takes, sells = ("takes", "ann"), ("sells", "ann", "bob")
        for years, told in [([[takes]], None), ([[takes], [], []], 2), ([[takes], [], [], []], 2), ([[], [], [], [takes]], 3), ([[takes], []], None),
                            ([[sells], [], [takes], [sells]], None), ([], None), ([[]] * 9, 2)]:
            self.assertEqual(enough_years(custom, History(custom.kinds, years), Who("owner")), told, years)
        self.assertEqual(enough_years(custom, History(custom.kinds), Room()), 0)
        self.assertEqual(enough_years(custom, History(custom.kinds, [[]] * 5), Reached("idle", 3)), 3)
        never = clocked_custom(1, 1, clauses=[Clause("x", [Is("p", "nobody")], [Put("p", "first")])])
        self.assertIsNone(enough_years(never, History(never.kinds, [[("x", "a")]] * 20), Who("p")))

    def test_many_years(self):
        custom = clocked_custom(1, 1, 24, clauses=[
            Clause("x", [Is("p", "nobody")], [Put("p", "first"), Zero("k")]), Clause("year", [AtLeast("k", 24)], [Put("p", "nobody")])])
        history = History(custom.kinds, [[("x", "ann")]] + [[]] * 150 + [[("x", "bob")]] + [[]] * 10)
        self.assertEqual(enough_years(custom, history, Who("p")), 34)


class ErrorsTest(Case):
    def test_in_order(self):
        big, small = clocked_custom(1, 2, 40), clocked_custom(1, 2, 19)
        history = History(big.kinds, [[("x", person) for person in "abcdefgh"]])
        nine = History(big.kinds, [[("x", person)] for person in "abcdefghi"])
        for call in (least_books, needed_books):
            self.refuses((OtherKinds,), call, big, HISTORY, None, None, whole=3)
            self.refuses((BadQuestion, "question"), call, big, history, None, None, whole=3)
            self.refuses((BadQuestion, "seat"), call, big, history, Who("z"), None, whole=3)
            self.refuses((BadShelf, 0, "books"), call, big, history, Room(), None, whole=3)
            self.refuses((BadAbstract, 8, "persons"), call, big, nine, Room(), kind_books(nine))
            self.refuses((TooMany, 410), call, big, history, Room(), kind_books(history))
            self.refuses((TooMany, 4040), call, small, history, Room(), kind_books(history))
            self.assertEqual(len(call(small, history, Room(), [], whole=True)), 1 if call is least_books else 0)
        self.refuses((OtherKinds,), enough_years, big, HISTORY, None)
        self.refuses((BadQuestion, "question"), enough_years, big, nine, None)
        self.refuses((BadAbstract, 8, "persons"), enough_years, big, nine, Room())
        self.refuses((TooMany, 410), enough_years, big, history, Room())
        self.refuses((TooMany, 4040), enough_years, small, history, Room())

    def test_keeps_nothing(self):
        books = [Book([0], ["x"]), Book([1, 2], ["y"])]
        self.keeps_nothing(lambda shelf: noted_of(HISTORY, shelf), books)


if __name__ == "__main__":
    unittest.main()
