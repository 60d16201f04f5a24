"""[16], with the definition of a STORE in [2]: walked beside a store that is led by trying out all combinations."""

import inspect
import random
import unittest
from itertools import product

from freshtold import stores
from freshtold.errors import StoreError, Wrong
from freshtold.stores import Store
from tests import oracle
from tests.values import near, odd_values

SIGNATURES = {"__init__": ["house"], "tell": ["one", "number"], "ask": ["one"], "rows": [], "reason": ["one"],
              "can_hold": ["world"], "twin": []}
HOUSES = [(prime, many) for prime in (2, 3, 5, 7) for many in (0, 1, 2, 3)]


def store_of(house, rows):
    """A store that was told rows, all of them new."""
    store = Store(house)
    for one, number in rows:
        assert store.tell(one, number) == "new"
    return store


def some_deed(chosen, house, rows):
    """A deed by chance, often with a sum that is made of rows, sometimes with the empty one."""
    one, number = tuple(chosen.randrange(house[0]) for _ in range(house[1])), chosen.randrange(house[0])
    kind = chosen.randrange(6)
    if kind < 2 and rows:
        one, number = oracle.row_of(house, rows, [chosen.randrange(house[0]) for _ in rows])
    if kind == 0:
        number = (number + chosen.randrange(house[0])) % house[0]
    if kind == 5 and chosen.randrange(3) == 0:
        one = (0,) * house[1]
    return ("tell", one, number) if chosen.randrange(3) else ("ask", one)


class StoreCase(unittest.TestCase):
    def check_exactly(self, found, wanted, told=None):
        """A value is this one, with integers that are integers, keys in this order and all."""
        self.assertEqual(repr(found), repr(wanted), told)

    def check_wrong(self, place, method, *told):
        """A call raises Wrong with this place, and changes no argument."""
        before = repr(told)
        with self.assertRaises(Wrong, msg=before[:300]) as caught:
            method(*told)
        self.assertIs(type(caught.exception), Wrong)
        self.check_exactly(caught.exception.place, place, before[:300])
        self.assertEqual(repr(told), before)

    def do(self, store, deed):
        return store.tell(*deed[1:]) if deed[0] == "tell" else store.ask(*deed[1:])

    def check_state(self, store, house, rows, sums):
        """A store holds just these rows, in this order, and gives the sums what all combinations give them."""
        self.check_exactly(store.rows(), rows)
        given = oracle.given(house, rows)
        for one in sums:
            number, numbers = given.get(one, ("open", None))
            self.check_exactly(store.ask(one), number, (rows, one))
            wanted = None if numbers is None else {at: worth for at, worth in enumerate(numbers) if worth}
            self.check_exactly(store.reason(one), wanted, (rows, one))

    def check_worlds(self, store, house, rows):
        for world in oracle.worlds(house):
            self.assertIs(store.can_hold(world), oracle.all_hold(house, rows, world), (rows, world))


class TestInterface(unittest.TestCase):
    def test_all_stand_in_the_class_in_the_file(self):
        self.assertEqual(Store.__module__, "freshtold.stores")
        self.assertIs(vars(stores)["Store"], Store)
        for name, parameters in SIGNATURES.items():
            self.assertEqual(list(inspect.signature(vars(Store)[name]).parameters), ["self"] + parameters)
        self.assertIn("__eq__", vars(Store))


class TestAnswers(StoreCase):
    def test_told_whole(self):
        store = Store((3, 2))
        found = [store.tell((1, 0), 1), store.tell((2, 0), 2), store.tell((2, 0), 0), store.ask((1, 1)),
                 store.tell((1, 1), 0), store.ask((0, 2)), store.ask((0, 1)), store.tell((0, 1), 2),
                 store.tell((0, 1), 1), store.tell((2, 2), 0), store.ask((2, 1))]
        self.check_exactly(found, ["new", "known", "clash", "open", "new", 1, 2, "known", "clash", "known", 1])
        self.check_exactly(store.rows(), (((1, 0), 1), ((1, 1), 0)))
        self.check_exactly([store.reason(one) for one in ((1, 0), (1, 1), (0, 2), (0, 1), (2, 1), (0, 0))],
                           [{0: 1}, {1: 1}, {0: 1, 1: 2}, {0: 2, 1: 1}, {0: 1, 1: 1}, {}])

    def test_a_new_store_holds_nothing(self):
        for house in HOUSES:
            store = Store(house)
            self.check_state(store, house, (), oracle.worlds(house))
            self.check_worlds(store, house, ())

    def test_the_empty_sum(self):
        for house in HOUSES:
            for rows in ((), (((1,) * house[1], 1),) if house[1] else ()):
                store, empty = store_of(house, rows), (0,) * house[1]
                self.check_exactly([store.tell(empty, number) for number in range(house[0])],
                                   ["known"] + ["clash"] * (house[0] - 1))
                self.check_exactly([store.ask(empty), store.reason(empty), store.rows()], [0, {}, rows])

    def test_all_that_can_be_told_in_small_houses(self):
        for house, most in (((2, 0), 3), ((3, 0), 2), ((2, 1), 3), ((3, 1), 2), ((2, 2), 3), ((5, 1), 2), ((7, 1), 1)):
            for rows in product(oracle.all_rows(house), repeat=most):
                store, led = Store(house), oracle.Led(house)
                for row in rows:
                    self.check_exactly(store.tell(*row), led.do(("tell",) + row), rows)
                self.check_state(store, house, led.rows, oracle.worlds(house))

    def test_beside_a_led_store(self):
        chosen = random.Random(16)
        answers = {}
        for house in HOUSES:
            for _ in range(40):
                store, led = Store(house), oracle.Led(house)
                for _ in range(chosen.randrange(4, 12)):
                    deed = some_deed(chosen, house, led.rows)
                    answer = led.do(deed)
                    answers[answer] = answers.get(answer, 0) + 1
                    self.check_exactly(self.do(store, deed), answer, (house, deed))
                    self.check_exactly(store.rows(), led.rows)
                self.check_state(store, house, led.rows, oracle.worlds(house))
                self.check_worlds(store, house, led.rows)
        for answer in ("new", "known", "clash", "open", 0, 1, 6):
            self.assertGreater(answers[answer], 5, answer)

    def test_eight_unknowns(self):
        chosen = random.Random(8)
        for prime in (2, 3, 5, 7):
            house = (prime, 8)
            world = tuple(chosen.randrange(prime) for _ in range(8))
            store, rows = Store(house), []
            while len(rows) < 8:
                one = tuple(chosen.randrange(prime) for _ in range(8))
                if store.tell(one, oracle.total(house, world, one)) == "new":
                    rows.append((one, oracle.total(house, world, one)))
                self.assertEqual(store.rows(), tuple(rows))
            for one in [tuple(chosen.randrange(prime) for _ in range(8)) for _ in range(40)]:
                number = oracle.total(house, world, one)
                self.check_exactly(store.ask(one), number)
                self.check_exactly(store.tell(one, number), "known")
                self.check_exactly(store.tell(one, (number + 1) % prime), "clash")
                reason = store.reason(one)
                self.assertEqual(list(reason), sorted(reason))
                self.assertTrue(all(worth in range(1, prime) for worth in reason.values()))
                numbers = [reason.get(at, 0) for at in range(8)]
                self.assertEqual(oracle.row_of(house, rows, numbers), (one, number))
            self.assertIs(store.can_hold(world), True)
            self.assertIs(store.can_hold(world[:7] + ((world[7] + 1) % prime,)), False)

    def test_a_hundred_unknowns(self):
        one, other = (1,) * 100, (0,) * 99 + (1,)
        store = Store((7, 100))
        self.check_exactly([store.tell(one, 6), store.tell(other, 5), store.ask((2,) * 99 + (5,))], ["new", "new", 6])
        self.check_exactly(store.reason((2,) * 99 + (5,)), {0: 2, 1: 3})

    def test_asks_change_nothing(self):
        store = store_of((5, 2), [((1, 2), 3)])
        for one in oracle.worlds((5, 2)):
            store.ask(one)
            store.reason(one)
            store.can_hold(one)
        self.check_exactly(store.rows(), (((1, 2), 3),))


class TestCanHold(StoreCase):
    def test_any_value(self):
        for house, rows in [((2, 0), ()), ((2, 1), ()), ((2, 1), (((1,), 1),)), ((2, 2), (((0, 1), 0),)),
                            ((3, 2), (((1, 0), 1), ((1, 1), 0))), ((7, 8), (((1,) * 8, 6),))]:
            store = store_of(house, rows)
            world = (1, 2)[:house[1]] if house[0] > 2 else (1,) * house[1]
            for thing in odd_values() + near(world) + near((0,) * house[1]):
                before = repr(thing)
                wanted = oracle.a_sum(house, thing) and oracle.all_hold(house, rows, thing)
                self.assertIs(store.can_hold(thing), bool(wanted), before[:300])
                self.assertEqual(repr(thing), before)
            self.check_exactly(store.rows(), rows)

    def test_no_world(self):
        store = Store((2, 2))
        for thing in [(0,), (0, 0, 0), [0, 0], (2, 0), (0, -1), (True, 0), (0, False), None, "00", {}, (), store]:
            self.assertIs(store.can_hold(thing), False)

    def test_each_row_counts(self):
        rows = (((1, 0, 0), 1), ((0, 1, 0), 2), ((1, 1, 1), 0))
        store = store_of((3, 3), rows)
        self.assertIs(store.can_hold((1, 2, 0)), True)
        for world in [(1, 2, 1), (1, 1, 1), (2, 2, 2), (0, 2, 1), (0, 0, 0)]:
            self.assertIs(store.can_hold(world), False)


class TestWrong(StoreCase):
    def test_houses(self):
        good = 0
        for thing in odd_values() + near((2, 1)) + near((7, 3)):
            if oracle.a_house(thing):
                self.check_exactly(Store(thing).rows(), ())
                good += 1
            else:
                self.check_wrong(0, Store, thing)
        self.assertGreater(good, 5)
        for thing in [(2, True), (2, -1), (4, 1), (1, 1), (0, 0), [2, 1], (2,), (2, 1, 0), ((2, 1), ()), "21", None]:
            self.check_wrong(0, Store, thing)

    def stores(self):
        """Tuples (house, rows, store)."""
        cases = [((2, 0), ()), ((2, 1), (((1,), 0),)), ((3, 2), (((1, 0), 2), ((2, 1), 0))), ((7, 2), ())]
        return [(house, rows, store_of(house, rows)) for house, rows in cases]

    def test_sums_that_are_asked(self):
        for house, rows, store in self.stores():
            for thing in odd_values() + near((1, 0)[:house[1]]):
                if not oracle.a_sum(house, thing):
                    self.check_wrong(0, store.ask, thing)
            self.check_state(store, house, rows, oracle.worlds(house))

    def test_sums_that_are_told(self):
        for house, rows, store in self.stores():
            for thing in odd_values() + near((1, 0)[:house[1]]):
                if not oracle.a_sum(house, thing):
                    self.check_wrong(0, store.tell, thing, 0)
                    self.check_wrong(0, store.tell, thing, thing)
                    self.check_wrong(0, store.tell, thing, None)
                    self.check_wrong(0, store.tell, thing, house[0])
            self.check_state(store, house, rows, oracle.worlds(house))

    def test_numbers_that_are_told(self):
        for house, rows, store in self.stores():
            for thing in odd_values() + near(0) + [house[0], -1, -house[0]]:
                if not oracle.a_number(house[0], thing):
                    for one in oracle.worlds(house):
                        self.check_wrong(1, store.tell, one, thing)
            self.check_state(store, house, rows, oracle.worlds(house))

    def test_truths_are_no_numbers(self):
        store = store_of((2, 1), [((1,), 1)])
        for one, number, place in [((1,), True, 1), ((0,), False, 1), ((True,), 1, 0), ((False,), True, 0)]:
            self.check_wrong(place, store.tell, one, number)
        self.check_wrong(0, store.ask, (True,))
        self.check_wrong(0, store.ask, (False,))

    def test_a_store_goes_on_behind_an_error(self):
        store = Store((3, 1))
        for told in [((3,), 1), ((1,), 3), (None, None), ([1], 1), ((1,), "1")]:
            with self.assertRaises(StoreError):
                store.tell(*told)
        self.check_exactly([store.tell((1,), 1), store.ask((2,)), store.rows()], ["new", 2, (((1,), 1),)])


class TestEqual(StoreCase):
    def check_equal(self, one, other, wanted):
        for found in (one == other, other == one, not one != other, not other != one):
            self.assertIs(found, wanted)

    def test_equal_stores(self):
        for house in HOUSES:
            rows = [((0,) * at + (1,) + (0,) * (house[1] - at - 1), 1) for at in range(house[1])]
            self.check_equal(store_of(house, rows), store_of(house, rows), True)
            store = Store(house)
            self.check_equal(store, store, True)

    def test_what_changes_nothing_does_not_count(self):
        one, other = store_of((3, 2), [((1, 0), 1)]), store_of((3, 2), [((1, 0), 1)])
        one.tell((2, 0), 2)
        one.tell((2, 0), 1)
        one.ask((0, 1))
        self.check_equal(one, other, True)

    def test_other_rows(self):
        rows = [((1, 0), 1), ((0, 1), 1)]
        store = store_of((3, 2), rows)
        for others in [[], rows[:1], rows[::-1], [((1, 0), 2), ((0, 1), 1)], [((1, 0), 1), ((1, 1), 2)],
                       [((1, 0), 1), ((0, 1), 0)], [((2, 0), 2), ((0, 1), 1)]]:
            self.check_equal(store, store_of((3, 2), others), False)

    def test_other_houses(self):
        for house in HOUSES:
            for other in HOUSES:
                self.check_equal(Store(house), Store(other), house == other)
        self.check_equal(store_of((3, 1), [((1,), 1)]), store_of((5, 1), [((1,), 1)]), False)

    def test_other_values(self):
        stores_seen = 0
        for store in (Store((2, 0)), store_of((2, 1), [((1,), 0)])):
            for thing in odd_values() + [store.rows(), ((2, 0), ()), (2, 0), ((2, 1), store.rows()), [store], (store,)]:
                if isinstance(thing, Store):
                    stores_seen += 1
                else:
                    self.check_equal(store, thing, False)
        self.assertGreater(stores_seen, 1)


class TestTwin(StoreCase):
    def test_a_twin_goes_its_own_way(self):
        store = store_of((3, 2), [((1, 0), 1)])
        twin = store.twin()
        self.assertIs(type(twin), Store)
        self.assertIsNot(twin, store)
        self.assertIs(twin == store, True)
        self.check_state(twin, (3, 2), (((1, 0), 1),), oracle.worlds((3, 2)))
        self.assertEqual(twin.tell((1, 1), 0), "new")
        self.check_state(store, (3, 2), (((1, 0), 1),), oracle.worlds((3, 2)))
        self.assertEqual(store.tell((0, 1), 0), "new")
        self.check_state(twin, (3, 2), (((1, 0), 1), ((1, 1), 0)), oracle.worlds((3, 2)))
        self.check_state(store, (3, 2), (((1, 0), 1), ((0, 1), 0)), oracle.worlds((3, 2)))
        self.assertIs(twin == store, False)

    def test_twins_of_twins(self):
        store = Store((5, 1))
        twin = store.twin().twin()
        store.tell((2,), 4)
        self.assertEqual([twin.rows(), twin.ask((1,)), store.twin().ask((1,))], [(), "open", 2])
        self.check_wrong(0, twin.tell, (1, 1), 0)


class TestTold(StoreCase):
    """[3]: no argument is changed, what is returned is new, and stores know nothing of one another."""

    def test_what_is_returned_may_be_changed(self):
        store = store_of((3, 2), [((1, 0), 1), ((1, 1), 0)])
        first = store.reason((0, 2))
        first[0] = "changed"
        first[9] = 9
        self.check_exactly(store.reason((0, 2)), {0: 1, 1: 2})
        store.reason((0, 0))["more"] = 1
        self.check_exactly(store.reason((0, 0)), {})
        self.assertIsNot(store.reason((0, 2)), store.reason((0, 2)))
        self.check_exactly(store.rows(), (((1, 0), 1), ((1, 1), 0)))

    def test_asked_again(self):
        one, other = store_of((3, 2), [((1, 0), 1)]), store_of((3, 2), [((1, 0), 1)])
        first = [(one.ask(asked), one.reason(asked), one.can_hold(asked)) for asked in oracle.worlds((3, 2))]
        other.tell((0, 1), 2)
        Store((3, 2)).tell((1, 0), 2)
        again = [(one.ask(asked), one.reason(asked), one.can_hold(asked)) for asked in oracle.worlds((3, 2))[::-1]]
        self.check_exactly(first, again[::-1])

    def test_rows_that_were_returned_stay_as_they_are(self):
        store = store_of((3, 2), [((1, 0), 1)])
        rows = store.rows()
        store.tell((0, 1), 1)
        self.check_exactly(rows, (((1, 0), 1),))


if __name__ == "__main__":
    unittest.main()
