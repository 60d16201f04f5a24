"""[13], with the definitions of [2]: what is returned is walked, and compared with what comes of trying out all."""

import random
import unittest
from itertools import permutations, product

from freshtold import sums
from tests import oracle

NAMES = ["empty_sum", "added", "times", "comes_to", "made_by", "are_independent", "dependence", "given_by",
         "parting_of", "world_of", "strife_of"]
SMALL_HOUSES = [(prime, many) for prime in (2, 3, 5, 7) for many in (0, 1, 2)] + [(2, 3), (3, 3)]


def some_rows(chosen, house, many):
    """Rows by chance; some are made of others, some differ from such in the number, some have the empty sum."""
    prime, rows = house[0], []
    for _ in range(many):
        kind = chosen.randrange(6)
        one = tuple(chosen.randrange(prime) for _ in range(house[1]))
        row = (one, chosen.randrange(prime))
        if kind < 3:
            row = oracle.row_of(house, rows, [chosen.randrange(prime) for _ in rows])
        if kind == 1:
            row = (row[0], (row[1] + chosen.randrange(prime)) % prime)
        if kind == 3 and rows:
            row = chosen.choice(rows)
        if kind == 4:
            row = ((0,) * house[1], chosen.randrange(2))
        rows.append(row)
    chosen.shuffle(rows)
    return tuple(rows)


def row_cases():
    """Tuples (house, rows), small enough to try out all combinations and all worlds."""
    cases = []
    for house, most in [((2, 0), 4), ((3, 0), 3), ((5, 0), 2), ((7, 0), 2), ((2, 1), 3), ((3, 1), 2), ((2, 2), 2)]:
        for many in range(most + 1):
            cases += [(house, rows) for rows in product(oracle.all_rows(house), repeat=many)]
    cases += [(house, (row,)) for house in SMALL_HOUSES for row in oracle.all_rows(house)]
    chosen = random.Random(2026)
    for house, most in [((2, 2), 5), ((2, 3), 6), ((2, 4), 5), ((3, 1), 4), ((3, 2), 4), ((3, 3), 4), ((5, 1), 3),
                        ((5, 2), 3), ((7, 1), 3), ((7, 2), 3)]:
        for _ in range(60):
            cases.append((house, some_rows(chosen, house, chosen.randrange(most + 1))))
    return cases


CASES = row_cases()


def big_rows(chosen, house, many):
    """Independent rows whose leading factors stand at unlike places, in any order, stirred by additions."""
    prime = house[0]
    rows = []
    for place in chosen.sample(range(house[1]), many):
        tail = [chosen.randrange(prime) for _ in range(house[1] - place - 1)]
        one = (0,) * place + (chosen.randrange(1, prime),) + tuple(tail)
        rows.append((one, chosen.randrange(prime)))
    for _ in range(2 * many):
        at, other = chosen.randrange(many), chosen.randrange(many)
        if at != other:
            rows[at] = oracle.row_of(house, [rows[at], rows[other]], [1, chosen.randrange(prime)])
    return tuple(rows)


class SumCase(unittest.TestCase):
    def assert_numbers(self, house, many, thing):
        """A value is a tuple with so many numbers, none of them a truth."""
        self.assertIs(type(thing), tuple)
        self.assertEqual(len(thing), many)
        for number in thing:
            self.assert_number(house, number)

    def assert_number(self, house, number):
        self.assertIs(type(number), int)
        self.assertIn(number, range(house[0]))


class TestInterface(unittest.TestCase):
    def test_all_are_defined_in_the_file(self):
        for name in NAMES:
            self.assertEqual(getattr(sums, name).__module__, "freshtold.sums")


class TestArithmetic(SumCase):
    def test_empty_sum(self):
        self.assertEqual(sums.empty_sum((2, 0)), ())
        self.assertEqual(sums.empty_sum((3, 1)), (0,))
        self.assertEqual(sums.empty_sum((7, 3)), (0, 0, 0))
        for prime in (2, 3, 5, 7):
            for many in (0, 1, 2, 8, 100):
                self.assertEqual(sums.empty_sum((prime, many)), (0,) * many)
                self.assert_numbers((prime, many), many, sums.empty_sum((prime, many)))

    def test_added(self):
        self.assertEqual(sums.added((5, 2), (1, 2), (4, 4)), (0, 1))
        self.assertEqual(sums.added((2, 3), (1, 1, 0), (1, 0, 0)), (0, 1, 0))
        self.assertEqual(sums.added((7, 1), (6,), (6,)), (5,))
        self.assertEqual(sums.added((3, 0), (), ()), ())

    def test_times(self):
        self.assertEqual(sums.times((5, 2), 3, (1, 2)), (3, 1))
        self.assertEqual(sums.times((7, 2), 6, (6, 1)), (1, 6))
        self.assertEqual(sums.times((2, 2), 0, (1, 1)), (0, 0))
        self.assertEqual(sums.times((2, 0), 1, ()), ())

    def test_comes_to(self):
        self.assertEqual(sums.comes_to((5, 2), (0, 4), (1, 1)), 4)
        self.assertEqual(sums.comes_to((7, 3), (6, 6, 6), (6, 6, 6)), 3)
        self.assertEqual(sums.comes_to((3, 2), (1, 2), (2, 2)), 0)
        self.assertEqual(sums.comes_to((2, 0), (), ()), 0)

    def test_all_small_sums(self):
        for house in SMALL_HOUSES:
            everything = oracle.worlds(house)
            for one in everything:
                for other in everything:
                    both = sums.added(house, one, other)
                    self.assert_numbers(house, house[1], both)
                    self.assertEqual(both, tuple((left + right) % house[0] for left, right in zip(one, other)))
                    number = sums.comes_to(house, other, one)
                    self.assert_number(house, number)
                    self.assertEqual(number, oracle.total(house, other, one))
                for number in range(house[0]):
                    made = sums.times(house, number, one)
                    self.assert_numbers(house, house[1], made)
                    self.assertEqual(made, tuple(number * factor % house[0] for factor in one))

    def test_many_unknowns(self):
        house = (7, 100)
        one, other = tuple(at % 7 for at in range(100)), (6,) * 100
        self.assertEqual(sums.added(house, one, other), tuple((at + 6) % 7 for at in range(100)))
        self.assertEqual(sums.times(house, 5, one), tuple(5 * at % 7 for at in range(100)))
        self.assertEqual(sums.comes_to(house, other, one), 6 * sum(one) % 7)

    def test_made_by(self):
        house, rows = (5, 2), (((1, 2), 3), ((0, 1), 4))
        self.assertEqual(sums.made_by(house, rows, (1, 3)), ((1, 0), 0))
        self.assertEqual(sums.made_by(house, rows, (0, 0)), ((0, 0), 0))
        self.assertEqual(sums.made_by(house, rows, (4, 0)), ((4, 3), 2))
        self.assertEqual(sums.made_by((2, 1), (((1,), 1),) * 3, (1, 1, 1)), ((1,), 1))

    def test_made_by_of_no_rows_and_no_unknowns(self):
        for prime in (2, 3, 5, 7):
            self.assertEqual(sums.made_by((prime, 3), (), ()), ((0, 0, 0), 0))
            self.assertEqual(sums.made_by((prime, 0), (), ()), ((), 0))
            self.assertEqual(sums.made_by((prime, 0), (((), 1),), (prime - 1,)), ((), prime - 1))
            self.assertEqual(sums.made_by((prime, 0), (((), 1), ((), prime - 1)), (1, 1)), ((), 0))

    def test_made_by_of_all_combinations(self):
        for house, rows in CASES[::7]:
            for numbers, row in oracle.all_made(house, rows):
                made = sums.made_by(house, rows, numbers)
                self.assertEqual(made, row)
                self.assertIs(type(made), tuple)
                self.assert_numbers(house, house[1], made[0])
                self.assert_number(house, made[1])


class TestIndependence(SumCase):
    def check(self, house, rows):
        """Returns whether the rows are independent, once all has been looked at."""
        empty = (0,) * house[1]
        wanted = not any(any(numbers) and row[0] == empty for numbers, row in oracle.all_made(house, rows))
        self.assertIs(sums.are_independent(house, rows), wanted, (house, rows))
        self.check_dependence(house, rows, wanted)
        return wanted

    def check_dependence(self, house, rows, wanted):
        numbers = sums.dependence(house, rows)
        if wanted:
            self.assertIsNone(numbers, (house, rows))
            return
        self.assertIsNotNone(numbers, (house, rows))
        self.assert_numbers(house, len(rows), numbers)
        self.assertTrue(any(numbers), (house, rows))
        self.assertEqual(oracle.row_of(house, rows, numbers)[0], (0,) * house[1], (house, rows))

    def test_no_rows(self):
        for prime in (2, 3, 5, 7):
            for many in (0, 1, 8):
                self.assertIs(sums.are_independent((prime, many), ()), True)
                self.assertIsNone(sums.dependence((prime, many), ()))

    def test_the_empty_sum_depends_whatever_its_number(self):
        for prime in (2, 3, 5, 7):
            for many in (0, 1, 2):
                for number in (0, 1, prime - 1):
                    rows = (((0,) * many, number),)
                    self.assertIs(sums.are_independent((prime, many), rows), False)
                    self.check_dependence((prime, many), rows, False)

    def test_equal_sums_depend_whatever_their_numbers(self):
        for prime in (2, 3, 5, 7):
            for number in (0, 1):
                rows = (((1, prime - 1), 0), ((1, prime - 1), number))
                self.assertIs(sums.are_independent((prime, 2), rows), False)
                self.check_dependence((prime, 2), rows, False)

    def test_all_cases(self):
        seen = [self.check(house, rows) for house, rows in CASES]
        self.assertGreater(seen.count(True), 200)
        self.assertGreater(seen.count(False), 200)

    def test_many_rows(self):
        chosen = random.Random(3)
        for prime in (2, 3, 5, 7):
            for _ in range(20):
                house = (prime, 8)
                rows = big_rows(chosen, house, chosen.randrange(2, 9))
                self.assertIs(sums.are_independent(house, rows), True)
                self.check_dependence(house, rows, True)
                more = rows + (oracle.row_of(house, rows, [chosen.randrange(prime) for _ in rows]),)
                more = tuple(chosen.sample(more, len(more)))
                self.assertIs(sums.are_independent(house, more), False)
                self.check_dependence(house, more, False)
                many = some_rows(chosen, house, 24)
                self.assertIs(sums.are_independent(house, many), False)
                self.check_dependence(house, many, False)


class TestGiven(SumCase):
    def check(self, house, rows):
        self.assertTrue(oracle_independent(house, rows), (house, rows))
        given = {row[0]: (row[1], numbers) for numbers, row in oracle.all_made(house, rows)}
        for one in oracle.worlds(house):
            found = sums.given_by(house, rows, one)
            self.assertEqual(found, given.get(one), (house, rows, one))
            if found is not None:
                self.assertIs(type(found), tuple)
                self.assert_number(house, found[0])
                self.assert_numbers(house, len(rows), found[1])

    def test_no_rows_give_the_empty_sum_alone(self):
        for prime in (2, 3, 5, 7):
            self.assertEqual(sums.given_by((prime, 0), (), ()), (0, ()))
            self.assertEqual(sums.given_by((prime, 2), (), (0, 0)), (0, ()))
            for one in [(0, 1), (1, 0), (1, prime - 1)]:
                self.assertIsNone(sums.given_by((prime, 2), (), one))

    def test_what_the_document_shows(self):
        house, rows = (5, 2), (((1, 2), 3), ((0, 1), 4))
        self.assertEqual(sums.given_by(house, rows, (2, 0)), (0, (2, 1)))
        self.assertIsNone(sums.given_by(house, rows[:1], (0, 1)))
        self.assertEqual(sums.given_by(house, rows, (0, 0)), (0, (0, 0)))

    def test_all_cases(self):
        independent = [case for case in CASES if oracle_independent(*case)]
        self.assertGreater(len(independent), 200)
        for house, rows in independent:
            self.check(house, rows)

    def test_all_orders_of_some_rows(self):
        rows = (((0, 1, 2), 1), ((2, 2, 0), 2), ((1, 0, 0), 0))
        for order in permutations(rows):
            self.check((3, 3), order)
        rows = (((0, 0, 1), 1), ((0, 1, 1), 0), ((1, 1, 1), 1))
        for order in permutations(rows):
            self.check((2, 3), order)

    def test_many_rows(self):
        chosen = random.Random(4)
        for prime in (2, 3, 5, 7):
            for _ in range(20):
                house = (prime, 8)
                rows = big_rows(chosen, house, chosen.randrange(2, 9))
                numbers = tuple(chosen.randrange(prime) for _ in rows)
                one, number = oracle.row_of(house, rows, numbers)
                self.assertEqual(sums.given_by(house, rows, one), (number, numbers))
                fewer = tuple(row if at else 0 for at, row in enumerate(numbers))
                left = sums.given_by(house, rows[1:], one)
                self.assertEqual(left, None if numbers[0] else (number, fewer[1:]))


def oracle_independent(house, rows):
    """Whether only the combination of 0s makes the empty sum."""
    return not any(any(numbers) and not any(row[0]) for numbers, row in oracle.all_made(house, rows))


class TestPartings(SumCase):
    def check_parting(self, house, rows, one, made):
        parting = sums.parting_of(house, rows, one)
        if made:
            self.assertIsNone(parting, (house, rows, one))
            return
        self.assertIsNotNone(parting, (house, rows, one))
        self.assert_numbers(house, house[1], parting)
        self.assertEqual([oracle.total(house, parting, row[0]) for row in rows], [0] * len(rows), (house, rows, one))
        self.assertNotEqual(oracle.total(house, parting, one), 0, (house, rows, one))

    def test_no_rows(self):
        for prime in (2, 3, 5, 7):
            self.assertIsNone(sums.parting_of((prime, 0), (), ()))
            self.assertIsNone(sums.parting_of((prime, 2), (), (0, 0)))
            for one in [(0, 1), (1, 0), (prime - 1, 1)]:
                self.check_parting((prime, 2), (), one, False)

    def test_numbers_of_rows_do_not_matter(self):
        for prime in (2, 3, 5, 7):
            for number in range(prime):
                rows = (((1, 0), number), ((1, 0), 1), ((0, 0), 1))
                self.check_parting((prime, 2), rows, (prime - 1, 0), True)
                self.check_parting((prime, 2), rows, (1, 1), False)
                self.check_parting((prime, 2), rows, (0, 0), True)

    def test_all_cases(self):
        for house, rows in CASES:
            made = {row[0] for _, row in oracle.all_made(house, rows)}
            for one in oracle.worlds(house):
                self.check_parting(house, rows, one, one in made)

    def test_many_rows(self):
        chosen = random.Random(5)
        for prime in (2, 3, 5, 7):
            for _ in range(20):
                house = (prime, 8)
                rows = big_rows(chosen, house, chosen.randrange(2, 9))
                numbers = [chosen.randrange(prime) for _ in rows]
                numbers[0] = chosen.randrange(1, prime)
                one = oracle.row_of(house, rows, numbers)[0]
                self.check_parting(house, rows, one, True)
                self.check_parting(house, rows + rows[::-1], one, True)
                self.check_parting(house, rows[1:], one, False)
                self.check_parting(house, rows[1:] + rows[1:], one, False)


class TestWorlds(SumCase):
    def check(self, house, rows, wanted):
        """Just one of world_of and strife_of is None, and the other one is right."""
        world, strife = sums.world_of(house, rows), sums.strife_of(house, rows)
        if wanted:
            self.assertIsNone(strife, (house, rows))
            self.assertIsNotNone(world, (house, rows))
            self.assert_numbers(house, house[1], world)
            self.assertTrue(oracle.all_hold(house, rows, world), (house, rows, world))
            return
        self.assertIsNone(world, (house, rows))
        self.assertIsNotNone(strife, (house, rows))
        self.assert_numbers(house, len(rows), strife)
        one, number = oracle.row_of(house, rows, strife)
        self.assertEqual(one, (0,) * house[1], (house, rows, strife))
        self.assertNotEqual(number, 0, (house, rows, strife))

    def test_no_rows(self):
        for prime in (2, 3, 5, 7):
            for many in (0, 1, 8, 100):
                self.check((prime, many), (), True)

    def test_the_empty_sum(self):
        for prime in (2, 3, 5, 7):
            for many in (0, 1, 2):
                empty = (0,) * many
                self.check((prime, many), ((empty, 0),), True)
                self.check((prime, many), ((empty, 0), (empty, 0)), True)
                for number in range(1, prime):
                    self.check((prime, many), ((empty, number),), False)
                    self.check((prime, many), ((empty, 0), (empty, number)), False)
                    self.check((prime, many), ((empty, number), (empty, number)), False)

    def test_equal_rows_and_the_same_sum_with_another_number(self):
        for prime in (2, 3, 5, 7):
            row, other = ((1, prime - 1), 1), ((1, prime - 1), 0)
            self.check((prime, 2), (row, row, row), True)
            self.check((prime, 2), (row, other), False)
            self.check((prime, 2), (row, row, other, other), False)

    def test_rows_made_of_others(self):
        for prime in (2, 3, 5, 7):
            house, rows = (prime, 3), (((1, 1, 0), 1), ((0, 1, 1), prime - 1))
            one, number = oracle.row_of(house, rows, (prime - 1, 1))
            self.check(house, rows + ((one, number),), True)
            self.check(house, ((one, number),) + rows, True)
            self.check(house, rows + ((one, (number + 1) % prime),), False)
            self.check(house, ((one, (number + 1) % prime),) + rows, False)

    def test_all_cases(self):
        seen = {True: 0, False: 0}
        for house, rows in CASES:
            wanted = any(oracle.all_hold(house, rows, world) for world in oracle.worlds(house))
            seen[wanted] += 1
            self.check(house, rows, wanted)
        self.assertGreater(min(seen.values()), 200)

    def test_many_rows(self):
        chosen = random.Random(6)
        for prime in (2, 3, 5, 7):
            for _ in range(20):
                house = (prime, 8)
                world = tuple(chosen.randrange(prime) for _ in range(8))
                rows = tuple((row[0], oracle.total(house, world, row[0])) for row in some_rows(chosen, house, 23))
                self.check(house, rows, True)
                made = oracle.row_of(house, rows, [chosen.randrange(prime) for _ in rows])
                worse = rows + ((made[0], (made[1] + chosen.randrange(1, prime)) % prime),)
                self.check(house, worse, False)
                self.check(house, worse[::-1], False)

    def test_hundred_unknowns(self):
        house = (5, 100)
        rows = tuple(((0,) * at + (2,) + (3,) * (99 - at), at % 5) for at in range(0, 100, 5))
        self.check(house, rows, True)
        made = oracle.row_of(house, rows, [at % 5 for at in range(20)])
        self.check(house, rows + (made,), True)
        self.check(house, rows + ((made[0], (made[1] + 1) % 5),), False)


class TestTold(unittest.TestCase):
    """[3]: equal arguments give equal results, whatever was called before; no argument is changed."""

    def results(self, cases):
        found = {}
        for house, rows in cases:
            for name in ("dependence", "world_of", "strife_of", "are_independent"):
                found[name, house, rows] = getattr(sums, name)(house, rows)
            for one in oracle.worlds(house)[:9]:
                found["parting_of", house, rows, one] = sums.parting_of(house, rows, one)
                if sums.are_independent(house, rows):
                    found["given_by", house, rows, one] = sums.given_by(house, rows, one)
        return found

    def test_asked_again_in_another_order(self):
        cases = CASES[::5]
        again = [(tuple(list(house)), tuple((tuple(list(row[0])), row[1]) for row in rows)) for house, rows in cases]
        before = repr(cases)
        self.assertEqual(self.results(cases), self.results(again[::-1]))
        self.assertEqual(repr(cases), before)


if __name__ == "__main__":
    unittest.main()
