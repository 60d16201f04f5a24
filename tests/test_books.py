"""[20] and [5]: book papers are walked by the test; all papers of small histories are tried out."""

import random
import unittest
from itertools import product

from freshtold import books
from tests import history_oracle as told
from tests import oracle
from tests.cases import ToldCase
from tests.histories import (BOTH, CALLS, EMPTY, FITTING, LATE, NOTHING, ONE, OTHER, bent_history,
                             fitting_history, large_history, mixed_histories, some_histories, sound_history)
from tests.values import near, odd_values

SIGNATURES = {"is_sound": ["history"], "is_book_paper": ["history", "thing"], "book_paper": ["history"]}
TELL = ("tell", ONE, 1)
WRONG = ((3, 2), CALLS[:2] + ((("ask", OTHER), 2, 6, 0),))
FEW = ((3, 2), (CALLS[0], (("tell", BOTH, 2), 1, 4, "known")))
TWICE = ((3, 2), (CALLS[0], (("tell", (2, 0), 0), 5, 6, "new")))
# New rows that depend, and every other thing that can be wrong, too.
ALL_WRONG = ((3, 2), ((TELL, 0, 1, "new"), (("ask", OTHER), 0, 1, 2), (("tell", (2, 0), 0), 0, 1, "new"),
                      (("tell", ONE, 1), 0, 1, "clash"), (("ask", (0, 0)), 0, 1, 2), (("tell", ONE, 0), 0, 1, "known"),
                      (("ask", (2, 0)), 0, 1, "open")))


def of_row(house, new, deed, answer):
    """A history of one new row and another call."""
    return (house, ((("tell",) + new, 0, 3, "new"), (deed, 2, 4, answer)))


def all_calls(house):
    """Calls with all deeds of a house and all their answers."""
    prime = house[0]
    found = [(("tell", one, number), 0, 9, answer)
             for (one, number), answer in product(oracle.all_rows(house), ["new", "known", "clash"])]
    return found + [(("ask", one), 0, 9, answer)
                    for one, answer in product(oracle.worlds(house), ["open", *range(prime)])]


def all_factors(history):
    """All dicts from NEW calls to numbers from 1 to prime - 1."""
    new = told.new(history)
    return [{index: number for index, number in zip(new, numbers, strict=True) if number}
            for numbers in product(range(history[0][0]), repeat=len(new))]


def all_papers(history):
    """All that has the form of a book paper, and more, of a small history."""
    dicts, indexes = all_factors(history), range(-1, len(history[1]) + 1)
    found = [("depends", factors) for factors in dicts]
    found += [("gainsaid", index, factors) for index in indexes for factors in dicts]
    return found + [("without", index, parting) for index in indexes for parting in oracle.worlds(history[0])]


class BookCase(ToldCase):
    def check_history(self, history):
        """A history is sound, or has a paper, which is walked; the paper, or None."""
        is_sound = told.sound(history)
        self.check(is_sound, books.is_sound, history)
        paper = self.call(books.book_paper, history)
        if is_sound:
            self.assertIsNone(paper, history)
        else:
            self.assertTrue(told.a_book_paper(history, paper), (history, paper))
            self.check(True, books.is_book_paper, history, paper)
        return paper

    def check_things(self, history, things):
        """Values are papers just if the words of [20] say so; how many are."""
        many = 0
        for thing in things:
            wanted = told.a_book_paper(history, thing)
            many += wanted
            self.assertIs(books.is_book_paper(history, thing), wanted, (history, repr(thing)[:300]))
        return many


class TestInterface(ToldCase):
    def test_all_are_defined_in_the_file(self):
        self.check_interface(books, SIGNATURES)


class TestSound(BookCase):
    def test_sound_ones(self):
        row, empty = (ONE, 1), (0, 0)
        sound = [FITTING, LATE, NOTHING] + EMPTY + [of_row((3, 2), row, deed, answer) for deed, answer in [
            (("tell", (2, 0), 2), "known"), (("tell", (2, 0), 1), "clash"), (("tell", (2, 0), 0), "clash"),
            (("ask", (2, 0)), 2), (("ask", (2, 0)), "open"), (("ask", OTHER), "open"), (("tell", OTHER, 0), "new"),
            (("tell", empty, 0), "known"), (("tell", empty, 1), "clash"), (("ask", empty), 0),
            (("ask", empty), "open")]]
        for history in sound:
            self.check(True, books.is_sound, history)
            self.check(None, books.book_paper, history)

    def test_unsound_ones(self):
        # Each with the only paper that there is of its kind, or any of them where there are several.
        row, empty = (ONE, 1), (0, 0)
        for deed, answer, papers in [
                (("tell", (2, 0), 2), "clash", [("gainsaid", 1, {0: 2})]),
                (("tell", (2, 0), 0), "known", [("gainsaid", 1, {0: 2})]),
                (("ask", (2, 0)), 1, [("gainsaid", 1, {0: 2})]),
                (("tell", OTHER, 0), "known", [("without", 1, (0, 1)), ("without", 1, (0, 2))]),
                (("tell", OTHER, 0), "clash", [("without", 1, (0, 1)), ("without", 1, (0, 2))]),
                (("ask", BOTH), 0, [("without", 1, (0, 1)), ("without", 1, (0, 2))]),
                (("tell", (2, 0), 2), "new", [("depends", {0: 1, 1: 1}), ("depends", {0: 2, 1: 2})]),
                (("tell", ONE, 2), "new", [("depends", {0: 1, 1: 2}), ("depends", {0: 2, 1: 1})]),
                (("tell", empty, 0), "new", [("depends", {1: 1}), ("depends", {1: 2})]),
                (("tell", empty, 0), "clash", [("gainsaid", 1, {})]),
                (("tell", empty, 2), "known", [("gainsaid", 1, {})]),
                (("ask", empty), 1, [("gainsaid", 1, {})])]:
            history = of_row((3, 2), row, deed, answer)
            self.assertIn(self.check_history(history), papers)
            self.assertEqual(self.check_things(history, all_papers(history)), len(papers))
            self.assertEqual([paper for paper in all_papers(history) if books.is_book_paper(history, paper)], papers)

    def test_examples(self):
        self.check(("gainsaid", 2, {0: 2, 1: 1}), books.book_paper, WRONG)
        for thing, is_so in [(("gainsaid", 2, {1: 1, 0: 2}), True), (("gainsaid", 2, {1: 1}), False)]:
            self.check(is_so, books.is_book_paper, WRONG, thing)
        for thing, is_so in [(("without", 1, (0, 2)), True), (("without", 1, (1, 0)), False), (("depends", {}), False)]:
            self.check(is_so, books.is_book_paper, FEW, thing)
        for thing, is_so in [(("depends", {0: 1, 1: 1}), True), (("depends", {0: 1, 1: 2}), False)]:
            self.check(is_so, books.is_book_paper, TWICE, thing)

    def test_houses_without_unknowns(self):
        for prime in (2, 3, 5, 7):
            for number in range(prime):
                for answer in ("new", "known", "clash"):
                    history = ((prime, 0), ((("tell", (), number), 0, 1, answer),))
                    paper = self.check_history(history)
                    if answer == "new":
                        self.assertEqual(paper[0], "depends")
                    else:
                        self.assertEqual(paper is None, (number == 0) == (answer == "known"))
                history = ((prime, 0), ((("ask", ()), 0, 1, number),))
                self.assertEqual(self.check_history(history), None if number == 0 else ("gainsaid", 0, {}))
                self.assertIsNone(self.check_history(((prime, 0), ((("ask", ()), 0, 1, "open"),))))

    def test_all_small_histories(self):
        for house, most in [((2, 0), 2), ((3, 0), 2), ((2, 1), 2), ((3, 1), 1), ((5, 1), 1), ((2, 2), 1)]:
            for many in range(most + 1):
                for calls in product(all_calls(house), repeat=many):
                    self.check_history((house, calls))
        chosen = random.Random(20)
        for house, many in [((2, 1), 3), ((3, 1), 2), ((2, 2), 3), ((3, 1), 3), ((5, 1), 2)]:
            calls = all_calls(house)
            for _ in range(150):
                self.check_history((house, tuple(chosen.choice(calls) for _ in range(many))))

    def test_by_chance(self):
        histories = mixed_histories(random.Random(200), 100, 7)
        kinds = [(self.check_history(history) or ("sound",))[0] for history in histories]
        for kind in ("sound", "depends", "gainsaid", "without"):
            self.assertGreater(kinds.count(kind), 10, kind)

    def test_what_is_true_of_a_weaving_is_sound(self):
        for history in some_histories(random.Random(201), fitting_history, 150, 8):
            self.check(True, books.is_sound, history)
        for history in some_histories(random.Random(202), sound_history, 150, 8):
            self.check(True, books.is_sound, history)

    def test_stretches_mean_nothing(self):
        for history in some_histories(random.Random(203), bent_history, 60, 6):
            turned = (history[0], tuple((deed, at, None, answer) for at, (deed, _, _, answer)
                                        in enumerate(history[1])))
            self.assertEqual(repr(self.call(books.book_paper, turned)), repr(self.call(books.book_paper, history)))

    def test_many_calls(self):
        chosen = random.Random(204)
        for house in [(7, 8), (5, 8), (3, 6), (2, 8)]:
            history = large_history(chosen, house)
            self.check(None, books.book_paper, history)
            self.check(True, books.is_sound, history)
            for index in told.wanting(history):
                deed, begin, end, answer = history[1][index]
                other = {"known": "clash", "clash": "known"}.get(answer)
                other = (answer + 1) % house[0] if other is None else other
                calls = history[1][:index] + ((deed, begin, end, other),) + history[1][index + 1:]
                kind, where, reason = self.call(books.book_paper, (house, calls))
                self.assertEqual((kind, where), ("gainsaid", index))
                self.assertTrue(told.factors(history, reason))
                self.assertEqual(told.made(history, reason)[0], deed[1])
                self.check(False, books.is_sound, (house, calls))


class TestPapers(BookCase):
    def test_all_papers_of_small_histories(self):
        chosen = random.Random(205)
        many = 0
        for house, most in [((2, 1), 3), ((2, 2), 4), ((3, 1), 3), ((3, 2), 3), ((5, 1), 3), ((7, 1), 2)]:
            for _ in range(40):
                history = bent_history(chosen, house, most, 4)
                many += self.check_things(history, all_papers(history))
        self.assertGreater(many, 200)

    def test_also_while_the_new_rows_depend(self):
        wanted = [("depends", {0: 1, 2: 1}), ("depends", {2: 2, 0: 2}),
                  ("without", 1, (0, 1)), ("without", 1, (0, 2)),
                  ("gainsaid", 3, {0: 1}), ("gainsaid", 4, {}), ("gainsaid", 5, {0: 1}),
                  ("gainsaid", 4, {0: 1, 2: 1}), ("gainsaid", 5, {2: 1, 0: 2})]
        for paper in wanted:
            self.assertTrue(told.a_book_paper(ALL_WRONG, paper), paper)
            self.assertIs(books.is_book_paper(ALL_WRONG, paper), True, paper)
        for thing in [("gainsaid", 3, {2: 2}), ("gainsaid", 5, {2: 2}), ("gainsaid", 4, {0: 1}),
                      ("gainsaid", 6, {0: 2}), ("gainsaid", 6, {2: 1}), ("gainsaid", 0, {2: 2}),
                      ("gainsaid", 2, {0: 2}), ("without", 6, (0, 1)), ("without", 4, (0, 1)), ("without", 1, (1, 0)),
                      ("without", 1, (1, 1)), ("without", 2, (1, 0)), ("depends", {0: 1})]:
            self.assertIs(books.is_book_paper(ALL_WRONG, thing), False, thing)
        self.assertEqual(self.check_things(ALL_WRONG, all_papers(ALL_WRONG)), len(wanted))

    def test_one_part_otherwise(self):
        papers = [(WRONG, ("gainsaid", 2, {0: 2, 1: 1})), (FEW, ("without", 1, (0, 2))), (FEW, ("without", 1, (0, 1))),
                  (TWICE, ("depends", {0: 1, 1: 1})), (ALL_WRONG, ("gainsaid", 4, {})),
                  (ALL_WRONG, ("gainsaid", 5, {0: 2, 2: 1})), (ALL_WRONG, ("gainsaid", 3, {0: 1})),
                  (ALL_WRONG, ("without", 1, (0, 1))), (ALL_WRONG, ("depends", {0: 2, 2: 2}))]
        for history, paper in papers:
            self.assertIs(books.is_book_paper(history, paper), True)
            things = near(paper)
            self.assertGreater(len(things), 100)
            self.check_things(history, things)
            for other in (FITTING, WRONG, FEW, TWICE, ALL_WRONG, ((3, 2), ())):
                self.check_things(other, things)

    def test_keys_in_any_order(self):
        for index, reason in [(2, {1: 1, 0: 2}), (2, {0: 2, 1: 1})]:
            self.assertIs(books.is_book_paper(WRONG, ("gainsaid", index, reason)), True)
        for factors in [{2: 1, 0: 1}, {0: 1, 2: 1}]:
            self.assertIs(books.is_book_paper(ALL_WRONG, ("depends", factors)), True)

    def test_numbers_that_are_none(self):
        for number in [-2, -1, 0, 3, 4, 5, True, False, "1", None, (1,), [1], {}, 1 + 3 * 10 ** 38]:
            for factors in [{0: number, 1: 1}, {0: 1, 1: number}, {0: number}]:
                self.assertIs(books.is_book_paper(TWICE, ("depends", factors)), False, factors)
            for parting in [(0, number), (number, 1), [0, 1], (0,), (0, 1, 0), {0: 0, 1: 1}]:
                # Of all these only (0, 1), which comes of the number 0, parts the sum.
                self.assertIs(books.is_book_paper(FEW, ("without", 1, parting)), repr(parting) == "(0, 1)", parting)

    def test_truths_are_no_keys_and_no_indexes(self):
        self.assertIs(books.is_book_paper(TWICE, ("depends", {False: 1, True: 1})), False)
        self.assertIs(books.is_book_paper(TWICE, ("depends", {0: True, 1: 1})), False)
        self.assertIs(books.is_book_paper(FEW, ("without", True, (0, 1))), False)
        self.assertIs(books.is_book_paper(FEW, ("without", 1, (False, 1))), False)
        history = of_row((2, 1), ((1,), 1), ("ask", (1,)), 0)
        self.assertIs(books.is_book_paper(history, ("gainsaid", 1, {0: 1})), True)
        for thing in [("gainsaid", True, {0: 1}), ("gainsaid", 1, {False: 1}), ("gainsaid", 1, {0: True})]:
            self.assertIs(books.is_book_paper(history, thing), False)

    def test_any_value(self):
        for history in (FITTING, WRONG, FEW, TWICE, ALL_WRONG, LATE, NOTHING, ((2, 0), ()), ((7, 3), ())):
            self.assertEqual(self.check_things(history, odd_values()), 0)
            for kind in ("depends", "gainsaid", "without"):
                for part in odd_values():
                    self.check_things(history, [(kind, part), (kind, 1, part), (kind, part, {}), (kind, part, (0, 1)),
                                                [kind, part], (kind, 1, part, 0)])

    def test_no_part_is_changed(self):
        paper = ("gainsaid", 2, {1: 1, 0: 2})
        books.is_book_paper(WRONG, paper)
        self.assertEqual(repr(paper), "('gainsaid', 2, {1: 1, 0: 2})")


if __name__ == "__main__":
    unittest.main()
