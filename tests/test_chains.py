import itertools
import unittest

from searchback.chains import Link, Term, chain_of, counted_years, root_of, terms_of
from searchback.clauses import AtLeast, Clause, Halt, Is, Put, Run, Zero
from searchback.customs import Custom
from searchback.errors import BadClock, BadSeat, OtherKinds
from searchback.histories import History
from searchback.kinds import Kinds
from searchback.walks import stand_at
from tests.helpers import (
    NO_LABELS, Case, EqualToAll, plain_custom, random_custom, random_history, told_ends, told_steps,
)

KINDS = Kinds([("open", 0), ("takes", 1), ("sells", 2)])
OTHERS = History(Kinds([("takes", 1)]))


def plain_history():
    return History(plain_custom().kinds, [
        [("takes", "ann"), ("sells", "bob", "cy")], [("sells", "ann", "bob")], [], []])


def told_chain(custom, history, seat):
    """The chain once more: for each link all steps ahead of it are looked through backward."""
    steps = list(told_steps(custom, history))
    found = []
    while True:
        for at in range(len(steps) - 1, -1, -1):
            year, place, _, clause, _, _ = steps[at]
            changes = custom.clauses[clause].changes if clause is not None else ()
            puts = [change for change in changes if isinstance(change, Put) and change.seat == seat]
            if puts:
                break
        else:
            return tuple(found)
        found.append(Link(year, place, clause, seat, puts[0].what))
        seat = puts[0].what
        steps = steps[:at]
        if seat not in custom.seats:
            return tuple(found)


def told_counted(custom, history, clock):
    at = [row[0] for row in custom.clocks].index(clock)
    cap = custom.clocks[at][1]
    number, running = custom.start.clocks[at]
    found = []
    for year, _, deed, clause, _, behind in told_steps(custom, history):
        if deed is None and running and number < cap:
            found.append(year)
        if clause is not None and Zero(clock) in custom.clauses[clause].changes:
            found = []
        number, running = behind.clocks[at]
    return tuple(found)


def pairs():
    for seed in range(300):
        custom = random_custom(seed, most=10)
        yield seed, custom, random_history(seed, custom.kinds, years=8, deeds=5)


class ChainTest(Case):
    def test_the_example(self):
        custom, history = plain_custom(), plain_history()
        chain = chain_of(custom, history, "owner")
        self.assertEqual(chain, (Link(3, 0, 2, "owner", "nobody"),))
        self.is_tuple_throughout(chain)
        self.assertIsNone(root_of(custom, history, "owner"))
        self.assertEqual(root_of(custom, history.first(3), "owner"), (1, 0, "bob"))
        self.assertEqual(chain_of(custom, history.first(1), "owner"), (Link(0, 0, 1, "owner", "first"),))
        self.assertEqual(root_of(custom, history.first(1), "owner"), (0, 0, "ann"))
        self.is_tuple_throughout(root_of(custom, history.first(1), "owner"))

    def test_nothing_was_put(self):
        custom = plain_custom()
        for history in (History(custom.kinds), History(custom.kinds, [[], [("sells", "a", "b")]])):
            self.assertEqual(chain_of(custom, history, "owner"), ())
            self.assertIsNone(root_of(custom, history, "owner"))

    def test_links_are_equal_by_all_five(self):
        self.same_only(lambda: Link(1, 2, 3, "a", "b"), [
            Link(0, 2, 3, "a", "b"), Link(1, 0, 3, "a", "b"), Link(1, 2, 0, "a", "b"), Link(1, 2, 3, "c", "b"),
            Link(1, 2, 3, "a", "c"), (1, 2, 3, "a", "b"), Term(1, 2, 3)])
        self.assertEqual(vars(Link("v", "w", "x", "y", "z")),
                         {"year": "v", "place": "w", "clause": "x", "seat": "y", "what": "z"})

    def test_through_other_seats(self):
        custom = Custom(KINDS, ["r"], ["a", "b", "c"], [], [
            Clause("takes", (), [Put("a", "first")]), Clause("open", (), [Put("b", "a"), Put("c", "b")]),
            Clause("sells", (), [Put("a", "second")]), Clause("year", (), [Put("a", "c")])])
        history = History(KINDS, [[("takes", "x"), ("open",)], [("sells", "y", "z"), ("open",)]])
        self.assertEqual(chain_of(custom, history, "c"), (
            Link(1, 1, 1, "c", "b"), Link(0, 1, 1, "b", "a"), Link(0, 0, 0, "a", "first")))
        self.assertEqual(root_of(custom, history, "c"), (0, 0, "x"))
        self.assertEqual(chain_of(custom, history, "b"), (Link(1, 1, 1, "b", "a"), Link(1, 0, 2, "a", "second")))
        self.assertEqual(root_of(custom, history, "b"), (1, 0, "z"))
        self.assertEqual(chain_of(custom, history, "a")[0], Link(1, 2, 3, "a", "c"))
        self.assertEqual(chain_of(custom, history.first(1), "c"), (Link(0, 1, 1, "c", "b"),))
        self.assertIsNone(root_of(custom, history.first(1), "c"))

    def test_an_exchange_reads_ahead_of_the_step(self):
        custom = Custom(KINDS, ["r"], ["a", "b"], [], [
            Clause("takes", (), [Put("a", "first")]), Clause("open", (), [Put("a", "b"), Put("b", "a")])])
        history = History(KINDS, [[("takes", "x"), ("open",)]])
        self.assertEqual(chain_of(custom, history, "b"), (Link(0, 1, 1, "b", "a"), Link(0, 0, 0, "a", "first")))
        self.assertEqual(chain_of(custom, history, "a"), (Link(0, 1, 1, "a", "b"),))
        self.assertIsNone(root_of(custom, history, "a"))

    def test_the_same_person_is_put_again(self):
        custom = Custom(KINDS, ["r"], ["a"], [], [Clause("takes", (), [Put("a", "first")])])
        history = History(KINDS, [[("takes", "x"), ("takes", "x")], []])
        self.assertEqual(root_of(custom, history, "a"), (0, 1, "x"))

    def test_thousands_of_links(self):
        custom = Custom(KINDS, ["r"], ["a", "b"], [], [
            Clause("takes", [Is("a", "nobody")], [Put("a", "first")]), Clause("open", (), [Put("a", "b"), Put("b", "a")])])
        history = History(KINDS, [[("takes", "x")], *[[("open",)] * 10] * 3000])
        chain = chain_of(custom, history, "a")
        self.assertEqual(len(chain), 30001)
        self.assertEqual(chain[0], Link(3000, 9, 1, "a", "b"))
        self.assertEqual(chain[1], Link(3000, 8, 1, "b", "a"))
        self.assertEqual(chain[-1], Link(0, 0, 0, "a", "first"))
        self.assertEqual(root_of(custom, history, "a"), (0, 0, "x"))
        self.assertEqual(len(chain_of(custom, history, "b")), 30000)

    def test_against_a_plain_walk(self):
        lengths = set()
        for seed, custom, history in pairs():
            end = stand_at(custom, history)
            for at, seat in enumerate(custom.seats):
                chain = chain_of(custom, history, seat)
                lengths.add(len(chain))
                self.assertEqual(chain, told_chain(custom, history, seat))
                root = root_of(custom, history, seat)
                if root is None:
                    self.assertIsNone(end.seats[at])
                    self.assertTrue(not chain or chain[-1].what not in ("first", "second"))
                else:
                    year, place, person = root
                    self.assertEqual(end.seats[at], person)
                    self.assertEqual((chain[-1].year, chain[-1].place), (year, place))
                    deed = history.years[year][place]
                    self.assertEqual(person, deed[1 if chain[-1].what == "first" else 2])
        self.assertTrue({0, 1, 2, 3, 4} <= lengths)

    def test_refusals(self):
        custom, history = plain_custom(), plain_history()
        for call in (chain_of, root_of, terms_of):
            for thing in (*NO_LABELS, "heir", "first", "nobody", "idle", EqualToAll()):
                self.refuses((BadSeat, thing), call, custom, history, thing)
                self.refuses((OtherKinds,), call, custom, OTHERS, thing)
            self.refuses((OtherKinds,), call, custom, OTHERS, "owner")
        for thing in (*NO_LABELS, "age", "owner", EqualToAll()):
            self.refuses((BadClock, thing), counted_years, custom, history, thing)
            self.refuses((OtherKinds,), counted_years, custom, OTHERS, thing)

    def test_nothing_is_changed(self):
        custom, history = plain_custom(), plain_history()
        for call in (chain_of, root_of, terms_of):
            call(custom, history, "owner")
        counted_years(custom, history, "idle")
        self.assertEqual((custom, history), (plain_custom(), plain_history()))


class TermsTest(Case):
    def test_the_example(self):
        terms = terms_of(plain_custom(), plain_history(), "owner")
        self.assertEqual(terms, (Term(None, 0, 0), Term("ann", 1, 1), Term("bob", 2, 3), Term(None, 4, 4)))
        self.is_tuple_throughout(terms)
        kinds = plain_custom().kinds
        self.assertEqual(terms_of(plain_custom(), History(kinds), "owner"), (Term(None, 0, 0),))
        self.assertEqual(terms_of(plain_custom(), History(kinds, [[], []]), "owner"), (Term(None, 0, 2),))

    def test_equal_by_all_three(self):
        self.same_only(lambda: Term("a", 1, 2), [Term(None, 1, 2), Term("a", 0, 2), Term("a", 1, 3), ("a", 1, 2)])
        self.assertEqual(vars(Term("x", "y", "z")), {"person": "x", "begin": "y", "end": "z"})

    def test_what_happens_amid_a_year_ends_no_term(self):
        kinds = plain_custom().kinds
        history = History(kinds, [[("takes", "a")], [("sells", "a", "b"), ("sells", "b", "a")], [("sells", "a", "b")]])
        self.assertEqual(terms_of(plain_custom(), history, "owner"),
                         (Term(None, 0, 0), Term("a", 1, 2), Term("b", 3, 3)))

    def test_against_a_plain_walk(self):
        for seed, custom, history in pairs():
            ends = told_ends(custom, history)
            for at, seat in enumerate(custom.seats):
                rows = itertools.groupby(enumerate(ends), key=lambda row: row[1].seats[at])
                told = []
                for person, row in rows:
                    numbers = [number for number, _ in row]
                    told.append(Term(person, numbers[0], numbers[-1]))
                self.assertEqual(terms_of(custom, history, seat), tuple(told))


class CountedTest(Case):
    def test_the_example(self):
        custom, history = plain_custom(), plain_history()
        self.assertEqual(counted_years(custom, history, "idle"), (1, 2, 3))
        self.is_tuple_throughout(counted_years(custom, history, "idle"))
        self.assertEqual(counted_years(custom, history.first(1), "idle"), (0,))
        self.assertEqual(counted_years(custom, History(custom.kinds), "idle"), ())

    def test_a_clock_at_its_cap(self):
        custom = Custom(KINDS, ["r"], ["a"], [("k", 1, True), ("l", 40, True)], [])
        history = History(KINDS, [[]] * 50)
        self.assertEqual(counted_years(custom, history, "k"), (0,))
        self.assertEqual(counted_years(custom, history, "l"), tuple(range(40)))

    def test_a_clock_that_is_halted_and_runs_again(self):
        custom = Custom(KINDS, ["r"], ["a"], [("k", 9, True), ("l", 9, False)], [
            Clause("open", [AtLeast("k", 2)], [Run("k"), Run("l")]), Clause("open", (), [Halt("k")])])
        history = History(KINDS, [[], [("open",)], [("open",)], []])
        self.assertEqual(counted_years(custom, history, "k"), (0,))
        self.assertEqual(counted_years(custom, history, "l"), ())
        custom = custom.with_clauses([Clause("takes", (), [Halt("k"), Run("l")]), Clause("open", (), [Run("k")])])
        history = History(KINDS, [[], [("takes", "x")], [], [("open",)], []])
        self.assertEqual(counted_years(custom, history, "k"), (0, 3, 4))
        self.assertEqual(counted_years(custom, history, "l"), (1, 2, 3, 4))

    def test_set_to_0_by_a_deed_and_at_a_years_end(self):
        custom = Custom(KINDS, ["r"], ["a"], [("k", 3, True)], [
            Clause("open", (), [Zero("k")]), Clause("year", [AtLeast("k", 3)], [Zero("k")])])
        history = History(KINDS, [[], [("open",)], []])
        self.assertEqual(counted_years(custom, history, "k"), (1, 2))
        history = History(KINDS, [[], [], [], [], []])
        self.assertEqual([counted_years(custom, history.first(years), "k") for years in range(6)],
                         [(), (0,), (0, 1), (), (3,), (3, 4)])

    def test_against_a_plain_walk(self):
        for seed, custom, history in pairs():
            end = stand_at(custom, history)
            for at, clock in enumerate(custom.clocks):
                found = counted_years(custom, history, clock[0])
                self.assertEqual(found, told_counted(custom, history, clock[0]))
                self.assertEqual(len(found), end.clocks[at][0])


if __name__ == "__main__":
    unittest.main()
