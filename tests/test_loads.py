"""Tests of viewstrike.loads: are_loads, sum_of, greatest_loads."""

import copy
import itertools
import random
import unittest

from tests.definitions import groups_by_definition
from tests.pricereference import are_loads_by_definition, cheapest_by_definition, has_line
from tests.pricesamples import PAIR, PAIR_PRICES, PAIR_STORE, priced, some_prices_at_the_bounds
from tests.samples import ODD_VALUES, PATH, grid, some_store
from viewstrike.house import House
from viewstrike.lines import gap_for
from viewstrike.loads import are_loads, greatest_loads, sum_of

SAMPLES = priced(200, 8, 50)
FULL = priced(12, 12, 51)
LINED = [sample for sample in SAMPLES if has_line(sample[0])]


def some_loads(some, matches, prices):
    """Return loads that come near to what fits."""
    chosen = sorted(some.sample(matches, some.randint(0, min(4, len(matches)))))
    most = max([1] + [price for table in prices for price in table])
    return tuple([(match, some.randint(1, some.choice((1, 2, most)))) for match in chosen])


class AreLoadsTest(unittest.TestCase):
    def check(self, sample, value, right):
        before = value if isinstance(value, House) else copy.deepcopy(value)
        self.assertIs(are_loads(*sample, value), right, value)
        self.assertIs(are_loads_by_definition(*sample, value), right, value)
        if not isinstance(value, House):
            self.assertEqual(value, before)

    pair = (PAIR, PAIR_STORE, PAIR_PRICES, (4,))

    def test_loads_that_fit(self):
        for value in ((), (((0, 0), 2),), (((1, 1), 1),), (((0, 0), 2), ((1, 1), 1)), (((0, 0), 1), ((1, 1), 1))):
            self.check(self.pair, value, True)
        told = {"value": (), "answer": (4,), "prices": PAIR_PRICES, "store": PAIR_STORE, "query": PAIR}
        self.assertIs(are_loads(**told), True)

    def test_a_price_that_is_exceeded_by_one(self):
        for value in ((((0, 0), 3),), (((1, 1), 2),), (((0, 0), 3), ((1, 1), 1)), (((0, 0), 2), ((1, 1), 2))):
            self.check(self.pair, value, False)
        # Two matches share a row: it bears the loads of both.
        sample = (((), PATH[1]), (((0, 0), (1, 0)), ((0, 0),)), ((3, 3), (4,)), ())
        self.check(sample, (((0, 0), 3), ((1, 0), 1)), True)
        self.check(sample, (((0, 0), 3), ((1, 0), 2)), False)
        self.check(sample, (((0, 0), 4),), False)

    def test_values_of_any_kind(self):
        deep = ()
        for _ in range(97):
            deep = (deep,)
        for value in ODD_VALUES + (
            7, "ab", (0, 0), ((0, 0), 1), [((0, 0), 1)], {(0, 0): 1}, deep, House(PAIR, ()), b"a",
        ):
            if value != ():
                self.check(self.pair, value, False)
        self.check(self.pair, (0,) * 1000000, False)
        self.check(self.pair, (((0, 0), 1),) * 200000, False)

    def test_pairs_of_a_wrong_kind(self):
        for pair in (
            None, True, 0, "", (), [], {}, ((0, 0),), ((0, 0), 1, 1), [(0, 0), 1], ([0, 0], 1), ((0, 0), [1]),
            ((0, 0), None),
            ((0, 0), "1"), ((0, 0), (1,)), ((0,), 1), ((0, 0, 0), 1), ((0, False), 1), ((False, 0), 1), ((0, None), 1),
            ("00", 1), ((0, 2), 1), ((2, 0), 1), ((0, -1), 1), ((-1, 0), 1), (((0, 0), 1),), (None, 1), (0, 0),
            (1, (0, 0)),
        ):
            self.check(self.pair, (pair,), False)
            self.check(self.pair, (pair, ((1, 1), 1)), False)
            self.check(self.pair, (((0, 0), 1), pair), False)

    def test_loads_below_one(self):
        for load in (0, -1, True, False, -(10**40), 10**40):
            self.check(self.pair, (((0, 0), load),), False)
            self.check(self.pair, (((0, 0), 1), ((1, 1), load)), False)

    def test_matches_that_fall_or_stand_twice(self):
        self.check(self.pair, (((1, 1), 1), ((0, 0), 1)), False)
        self.check(self.pair, (((0, 0), 1), ((0, 0), 1)), False)
        self.check(self.pair, (((0, 0), 1), ((0, 0), 2)), False)
        sample = (PAIR, PAIR_STORE, ((9, 9), (9, 9)), (4,))
        self.check(sample, (((0, 0), 1), ((0, 0), 2)), False)
        self.check(sample, (((0, 0), 1), ((1, 1), 2)), True)

    def test_matches_of_another_answer_and_no_matches(self):
        sample = (PAIR, (((4, 5), (7, 5)), ((5,), (6,))), ((9, 9), (9, 9)), (4,))
        self.check(sample, (((0, 0), 1),), True)
        self.check(sample, (((1, 0), 1),), False)
        self.check(sample, (((0, 0), 1), ((1, 0), 1)), False)
        self.check(sample, (((0, 1), 1),), False)

    def test_prices_of_zero(self):
        sample = (PAIR, PAIR_STORE, ((0, 1), (9, 9)), (4,))
        self.check(sample, (((0, 0), 1),), False)
        self.check(sample, (((1, 1), 1),), True)
        self.check(sample, (), True)

    def test_sampled_loads(self):
        some = random.Random(52)
        told = []
        for query, store, prices, answer in SAMPLES:
            groups = groups_by_definition(query, store)
            every = [match for matches in groups.values() for match in matches]
            for _ in range(12):
                loads = some_loads(some, groups[answer] if some.randrange(5) else every, prices)
                if some.randrange(9) == 0:
                    loads = some.choice((loads[::-1], loads + loads, list(loads), loads[1:]))
                told.append(are_loads_by_definition(query, store, prices, answer, loads))
                self.check((query, store, prices, answer), loads, told[-1])
        self.assertTrue(min(told.count(True), told.count(False)) >= 200)

    def test_loads_that_fit_never_exceed_the_cheapest_price(self):
        some = random.Random(53)
        fitting = 0
        for query, store, prices, answer in SAMPLES:
            least = cheapest_by_definition(query, store, prices, answer)
            for _ in range(12):
                loads = some_loads(some, groups_by_definition(query, store)[answer], prices)
                if are_loads(query, store, prices, answer, loads):
                    fitting += 1
                    self.assertLessEqual(sum_of(loads), least)
        self.assertGreater(fitting, 200)
        self.assertTrue(any(not has_line(sample[0]) for sample in SAMPLES))


class SumTest(unittest.TestCase):
    def test_sum_of(self):
        self.assertEqual(sum_of(()), 0)
        self.assertEqual(sum_of((((0, 0), 2),)), 2)
        self.assertEqual(sum_of(loads=(((0, 0), 2), ((1, 1), 99), ((1, 2), 1))), 102)


class GreatestLoadsTest(unittest.TestCase):
    def check_sample(self, query, store, prices, answer):
        loads = greatest_loads(query, store, prices, answer)
        self.assertIs(type(loads), tuple)
        self.assertTrue(are_loads_by_definition(query, store, prices, answer, loads), (query, store, prices, loads))
        self.assertIs(are_loads(query, store, prices, answer, loads), True)
        least = cheapest_by_definition(query, store, prices, answer)
        self.assertEqual(sum_of(loads), least)
        self.assertEqual(greatest_loads(answer=answer, prices=prices, store=store, query=query), loads)
        return loads

    def test_example_of_the_interface(self):
        loads = greatest_loads(PAIR, PAIR_STORE, PAIR_PRICES, (4,))
        self.assertEqual(loads, (((0, 0), 2), ((1, 1), 1)))
        told = sum_of((((0, 0), 2),)), are_loads(PAIR, PAIR_STORE, PAIR_PRICES, (4,), (((0, 0), 3),))
        self.assertEqual(told, (2, False))

    def test_by_all_strikes(self):
        many = [len(self.check_sample(*sample)) for sample in LINED]
        self.assertTrue(len(LINED) >= 100 and many.count(0) >= 3 and max(many) >= 3)

    def test_other_prices_of_the_same_stores(self):
        for query, store, _, answer in LINED[:80]:
            self.check_sample(query, store, some_prices_at_the_bounds(store), answer)
            self.assertEqual(self.check_sample(query, store, tuple([(0,) * len(t) for t in store]), answer), ())
            self.check_sample(query, store, tuple([(1,) * len(t) for t in store]), answer)

    def test_long_lines(self):
        some = random.Random(54)
        atoms = ((0, 1), (1, 2), (2, 3), (3, 4), (4, 5))
        done = 0
        for order in itertools.permutations(range(5)):
            query = (some.choice(((), (0,))), tuple([atoms[t] for t in order]))
            store = some_store(some, query, 11)
            groups = groups_by_definition(query, store)
            if groups:
                prices = tuple([tuple([some.randint(0, 5) for _ in table]) for table in store])
                self.check_sample(query, store, prices, some.choice(list(groups)))
                done += 1
        self.assertGreater(done, 60)

    def test_flows_that_must_be_turned_back(self):
        # The first way that is found may be through rows that others need, too.
        query = ((), ((0,), (0, 1), (1,)))
        store = (((0,), (1,)), ((0, 0), (0, 1), (1, 0)), ((0,), (1,)))
        loads = self.check_sample(query, store, ((5, 5), (9, 9, 9), (5, 5)), ())
        self.assertEqual(sum_of(loads), 10)
        for left, right, most in (((5, 2), (5, 5), 7), ((5, 5), (5, 2), 7), ((3, 4), (4, 9), 7), ((9, 1), (3, 9), 10)):
            loads = self.check_sample(query, store, (left, (9, 9, 9), right), ())
            self.assertEqual(sum_of(loads), most)

    def test_stores_with_up_to_twelve_rows(self):
        for sample in FULL:
            if has_line(sample[0]):
                self.check_sample(*sample)
        for sizes in ((3, 3, 2, 2, 2), (6, 6), (12,), (4, 4, 4)):
            query, store = grid(sizes, ())
            self.check_sample(query, store, some_prices_at_the_bounds(store), ())
            loads = greatest_loads(query, store, tuple([(99,) * many for many in sizes]), ())
            self.assertEqual(sum_of(loads), 99 * min(sizes))

    def test_loads_fall_short_in_a_gap(self):
        some = random.Random(55)
        query = ((), ((0, 1), (1, 2), (2, 0)))
        store, prices, answer, halves, _ = gap_for(query)
        worth = sum(half * price for pair in zip(halves, prices) for half, price in zip(*pair))
        matches = groups_by_definition(query, store)[answer]
        sums = set()
        for _ in range(300):
            loads = ()
            for match in some.sample(matches, len(matches)):
                further = tuple(sorted(loads + ((match, 1),)))
                loads = further if are_loads(query, store, prices, answer, further) else loads
            sums.add(sum_of(loads))
        self.assertTrue(len(sums) > 1 and max(sums) == worth // 2)


if __name__ == "__main__":
    unittest.main()
