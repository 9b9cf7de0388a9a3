"""Tests of viewstrike.prices: require_prices, price_of, cheapest, cheapest_strike, is_price_tree, price_tree."""

import copy
import random
import unittest

from tests.definitions import all_rows, all_strikes, groups_by_definition
from tests.papersamples import all_parts, changed, part_at, with_part
from tests.pricereference import cheapest_by_definition, is_right_price_tree, price, takes
from tests.pricesamples import PAIR, PAIR_PRICES, PAIR_STORE, priced, some_prices_at_the_bounds
from tests.samples import ODD_VALUES, PATH, RICH, grid
from viewstrike.errors import InvalidPrices
from viewstrike.house import House
from viewstrike.prices import cheapest, cheapest_strike, is_price_tree, price_of, price_tree, require_prices
from viewstrike.strikes import require_strike

SAMPLES = priced(150)
FULL = priced(12, 12, 24)


def long_price_tree(store, levels):
    """Return a tree with so many matches on one path, all of them the first one, and with () elsewhere."""
    tree = ()
    for _ in range(levels):
        tree = ((0,) * len(store), (tree,) + ((),) * (len(store) - 1))
    return tree


class RequirePricesTest(unittest.TestCase):
    def check_wrong(self, store, value, table):
        before = copy.deepcopy(value)
        with self.assertRaises(InvalidPrices) as caught:
            require_prices(store, value)
        self.assertEqual((type(caught.exception.table), caught.exception.table), (type(table), table), value)
        self.assertIsInstance(caught.exception, ValueError)
        self.assertEqual(value, before)

    def test_prices_come_back_as_they_are(self):
        for value in (((0, 0), (0, 0)), ((99, 0), (50, 99)), PAIR_PRICES):
            self.assertIs(require_prices(PAIR_STORE, value), value)
            self.assertIs(require_prices(value=value, store=PAIR_STORE), value)
        for _, store, prices, _ in SAMPLES:
            self.assertIs(require_prices(store, prices), prices)
        self.assertEqual(require_prices(((), ((1,),)), ((), (7,))), ((), (7,)))

    def test_what_is_no_tuple_with_an_element_for_each_table(self):
        for value in ODD_VALUES + (
            7, 99, "ab", list(PAIR_PRICES), PAIR_PRICES[:1], PAIR_PRICES + ((),), PAIR_PRICES + PAIR_PRICES[1:],
            {0: (3, 1), 1: (2, 5)}, (0,) * 1000000, House(PAIR, ()), b"ab",
        ):
            self.check_wrong(PAIR_STORE, value, None)

    def test_the_first_table_that_is_wrong(self):
        wrong = (
            None, True, 0, 7, "", "31", [], [3, 1], {}, {0: 3, 1: 1}, (), (3,), (3, 1, 0), (-1, 1), (3, 100), (3, None),
            (True, 1), (3, False), ("3", 1), (3, [1]), (3, (1,)), (10**40, 1), (3, -(10**40)), (0,) * 100000,
        )
        for table in wrong:
            self.check_wrong(PAIR_STORE, (table, (2, 5)), 0)
            self.check_wrong(PAIR_STORE, ((2, 5), table), 1)
            self.check_wrong(PAIR_STORE, (table, table), 0)
        self.check_wrong(((), ((1,),)), ((0,), ()), 0)
        self.check_wrong(((), ((1,),)), ((), ()), 1)
        self.check_wrong(((), ((1,),)), ([], (1,)), 0)

    def test_the_bounds(self):
        for value in (0, 99):
            self.assertEqual(require_prices((((1,),),), ((value,),)), ((value,),))
        for value in (-1, 100):
            self.check_wrong((((1,),),), ((value,),), 0)


class CheapestTest(unittest.TestCase):
    def check_sample(self, query, store, prices, answer):
        least = cheapest_by_definition(query, store, prices, answer)
        told = cheapest(query, store, prices, answer)
        self.assertEqual((type(told), told), (int, least))
        strike = cheapest_strike(query, store, prices, answer)
        self.assertIs(require_strike(store, strike), strike)
        self.assertTrue(takes(query, store, strike, answer))
        self.assertEqual(price(prices, strike), least)
        for n in sorted({0, 1, least - 1, least, least + 1, least + 50, 2000} - {-1}):
            tree = price_tree(query, store, prices, answer, n)
            if n > least:
                self.assertIsNone(tree)
            else:
                self.assertTrue(is_right_price_tree(query, store, prices, answer, n, tree))
                self.assertIs(is_price_tree(query, store, prices, answer, n, tree), True)
                self.assertIs(is_price_tree(query, store, prices, answer, least + 1, tree), False)

    def test_example_of_the_interface(self):
        told = cheapest(PAIR, PAIR_STORE, PAIR_PRICES, (4,)), cheapest_strike(PAIR, PAIR_STORE, PAIR_PRICES, (4,))
        self.assertEqual(told, (3, ((0, 1), (1, 0))))
        self.assertIsNone(price_tree(PAIR, PAIR_STORE, PAIR_PRICES, (4,), 4))
        self.assertIsNotNone(price_tree(PAIR, PAIR_STORE, PAIR_PRICES, (4,), 3))

    def test_price_of(self):
        self.assertEqual(price_of(PAIR_PRICES, ()), 0)
        self.assertEqual(price_of(PAIR_PRICES, ((0, 0), (0, 1), (1, 0), (1, 1))), 11)
        self.assertEqual(price_of(strike=((0, 1), (1, 1)), prices=PAIR_PRICES), 6)
        for _, store, prices, _ in SAMPLES[:20]:
            for strike in all_strikes(store):
                self.assertEqual(price_of(prices, strike), price(prices, strike))

    def test_by_all_strikes(self):
        for sample in SAMPLES:
            self.check_sample(*sample)
        told = [cheapest(*sample) for sample in SAMPLES]
        self.assertTrue(told.count(0) >= 5 and len(set(told)) >= 10)

    def test_other_prices_of_the_same_stores(self):
        for query, store, _, answer in SAMPLES[:60]:
            self.check_sample(query, store, some_prices_at_the_bounds(store), answer)
            self.check_sample(query, store, tuple([(0,) * len(table) for table in store]), answer)
            self.check_sample(query, store, tuple([(99,) * len(table) for table in store]), answer)

    def test_stores_with_up_to_twelve_rows(self):
        for sample in FULL:
            self.check_sample(*sample)

    def test_what_else_is_lost_does_not_count(self):
        query, store = grid((1, 5), (1,))
        self.assertEqual(cheapest_strike(query, store, ((1,), (9, 9, 9, 9, 9)), (2,)), ((0, 0),))
        self.assertEqual(cheapest_strike(query, store, ((9,), (9, 9, 1, 9, 9)), (2,)), ((1, 2),))

    def test_the_greatest_prices(self):
        query, store = grid((12,), ())
        prices = ((99,) * 12,)
        self.assertEqual(cheapest(query, store, prices, ()), 1188)
        tree = price_tree(query, store, prices, (), 1188)
        self.assertTrue(is_price_tree(query, store, prices, (), 1188, tree))
        self.assertIsNone(price_tree(query, store, prices, (), 1189))
        self.assertIsNone(price_tree(query, store, prices, (), 2000))
        for sizes in ((3, 3, 2, 2, 2), (4, 4, 4), (6, 6), (3, 3, 3, 3)):
            query, store = grid(sizes, ())
            prices = tuple([(97 - t,) * len(table) for t, table in enumerate(store)])
            least = min(sum(table) for table in prices)
            self.assertEqual(cheapest(query, store, prices, ()), least)
            tree = price_tree(query, store, prices, (), least)
            self.assertTrue(is_right_price_tree(query, store, prices, (), least, tree))

    def test_all_arguments_by_name(self):
        for query, store, prices, answer in SAMPLES[:20]:
            told = {"answer": answer, "prices": prices, "store": store, "query": query}
            least = cheapest(query, store, prices, answer)
            self.assertEqual(cheapest(**told), least)
            self.assertEqual(cheapest_strike(**told), cheapest_strike(query, store, prices, answer))
            tree = price_tree(n=least, **told)
            self.assertEqual(tree, price_tree(query, store, prices, answer, least))
            self.assertTrue(is_price_tree(value=tree, n=least, **told))


class IsPriceTreeTest(unittest.TestCase):
    def check(self, sample, n, value, right):
        before = copy.deepcopy(value)
        self.assertIs(is_price_tree(*sample, n, value), right, value)
        self.assertIs(is_right_price_tree(*sample, n, value), right, value)
        self.assertEqual(value, before)

    pair = (PAIR, PAIR_STORE, PAIR_PRICES, (4,))
    right = ((0, 0), (((1, 1), ((), ())), ((1, 1), ((), ()))))

    def test_a_tree_of_the_example(self):
        for n in (0, 1, 2, 3):
            self.check(self.pair, n, self.right, True)
        for n in (4, 5, 2000):
            self.check(self.pair, n, self.right, False)
        self.check(self.pair, 0, (), True)
        self.check(self.pair, 1, (), False)
        # A pair may also stand where () would not fail.
        self.check(self.pair, 3, ((0, 0), ((), ((1, 1), ((), ())))), True)
        self.check(self.pair, 4, ((0, 0), (((1, 1), ((), ())), ((1, 1), ((), ())))), False)

    def test_values_of_any_kind(self):
        for value in ODD_VALUES + ((0, 0), ((0, 0),), 7, -1, b"", "()", [()], House(PAIR, ()), (0,) * 100000):
            self.check(self.pair, 3, value, False)
        deep = ()
        for _ in range(97):
            deep = (deep,)
        self.check(self.pair, 0, deep, False)

    def test_parts_of_a_wrong_kind(self):
        wrong = [None, True, 0, "", "()", [], {}, [self.right], (None,), ((0, 0), [(), ()]), ((0, 0), ((), (), ()))]
        wrong += [((0, 0), ((),)), ((0, 0), ()), ([0, 0], ((), ())), ((0, False), ((), ())), ((0, 2), ((), ()))]
        wrong += [((0, -1), ((), ())), ((0,), ((), ())), ((0, 0, 0), ((), ())), ((0, 0), ((), ()), ())]
        for value in wrong:
            self.check(self.pair, 0, value, False)
            self.check(self.pair, 3, ((0, 0), (value, self.right[1][1])), False)
            self.check(self.pair, 3, ((0, 0), (self.right[1][0], value)), False)

    def test_matches_that_are_not_wanted(self):
        for match in ((0, 1), (1, 0)):
            self.check(self.pair, 0, (match, ((), ())), False)
        query, store = (PATH[0], PATH[1]), (((0, 0), (1, 0)), ((0, 0),))
        prices = ((1, 1), (1,))
        self.check((query, store, prices, (0, 0)), 1, ((0, 0), ((), ())), True)
        self.check((query, store, prices, (0, 0)), 1, ((1, 0), ((), ())), False)

    def test_struck_and_spared_rows(self):
        sample = (((), ((0,), (1,))), (((0,), (1,)), ((0,), (1,))), ((1, 1), (1, 1)), ())
        # Below table 1 the match's row of table 0 is spared; its next match with this row has None there.
        right = ((0, 0), (((1, 0), ((), ())), ((0, 1), (None, ()))))
        self.check(sample, 2, right, True)
        self.check(sample, 2, ((0, 0), (((1, 0), ((), ())), ((0, 1), ((), ())))), False)
        self.check(sample, 2, ((0, 0), (((1, 0), (None, ())), ((0, 1), (None, ())))), False)
        self.check(sample, 2, ((0, 0), (None, ((0, 1), (None, ())))), False)
        self.check(sample, 2, ((0, 0), (((0, 1), ((), ())), ((0, 1), (None, ())))), False)

    def test_a_match_with_a_struck_row(self):
        sample = (((), ((0,), (1,))), (((0,), (1,)), ((0,), (1,))), ((9, 9), (9, 9)), ())
        tree = ((0, 1), (((1, 0), ((), ())), ((0, 0), (None, ()))))
        self.check(sample, 18, tree, True)
        self.check(sample, 18, ((0, 1), (((1, 0), ((), ())), ((0, 0), (None, ((1, 1), (None, None)))))), False)
        sample = (((), ((0,),)), (((0,),),), ((5,),), ())
        self.check(sample, 5, ((0,), ((),)), True)
        self.check(sample, 5, ((0,), (((0,), ((),)),)), False)
        self.check(sample, 5, ((0,), (None,)), False)

    def test_twelve_and_thirteen_matches_on_a_path(self):
        query, store = grid((12,), ())
        tree = ()
        for number in range(12):
            tree = ((number,), (tree,))
        self.check((query, store, ((1,) * 12,), ()), 12, tree, True)
        self.check((query, store, ((1,) * 12,), ()), 13, tree, False)
        self.check((query, store, ((0,) * 12,), ()), 0, tree, True)
        self.check((query, store, ((0,) * 12,), ()), 0, ((0,), (tree,)), False)
        for levels in (2, 12, 13, 14, 90):
            self.check((query, store, ((0,) * 12,), ()), 0, long_price_tree(store, levels), False)

    def test_trees_with_one_part_changed(self):
        some = random.Random(25)
        told = []
        for sample in SAMPLES[:100]:
            least = cheapest(*sample)
            tree = price_tree(*sample, least)
            for _ in range(10):
                path = some.choice(all_parts(tree))
                other = with_part(tree, path, changed(some, part_at(tree, path), (tree, sample[3])))
                told.append(is_price_tree(*sample, least, other))
                self.check(sample, least, other, told[-1])
        self.assertTrue(min(told.count(True), told.count(False)) >= 20)

    def test_sampled_trees(self):
        some = random.Random(26)
        told = []
        for query, store, prices, answer in SAMPLES:
            matches = groups_by_definition(query, store)[answer]
            least = cheapest(query, store, prices, answer)
            for _ in range(6):
                tree = some_right_tree(some, matches, len(store), 6, frozenset(), frozenset())
                for n in (0, 1, least):
                    told.append(is_price_tree(query, store, prices, answer, n, tree))
                    self.check((query, store, prices, answer), n, tree, told[-1])
        self.assertTrue(min(told.count(True), told.count(False)) >= 50)

    def test_a_tree_for_other_prices(self):
        for query, store, prices, answer in SAMPLES[:60]:
            tree = price_tree(query, store, prices, answer, cheapest(query, store, prices, answer))
            for other in ([(0,) * len(table) for table in store], [(1,) * len(table) for table in store]):
                sample = (query, store, tuple(other), answer)
                self.check(sample, 1, tree, is_right_price_tree(*sample, 1, tree))

    def test_trees_that_calls_returned_for_rich_stores(self):
        for query, store in RICH:
            for answer in groups_by_definition(query, store):
                prices = some_prices_at_the_bounds(store)
                least = cheapest(query, store, prices, answer)
                tree = price_tree(query, store, prices, answer, least)
                self.check((query, store, prices, answer), least, tree, True)
                self.assertEqual(len(all_rows(store)), sum(map(len, prices)))


def some_right_tree(some, matches, tables, levels, struck, spared):
    """Return a tree over wanted matches alone that mostly has the right shape, cut at some depth."""
    left = [match for match in matches if not set(enumerate(match)) & struck]
    if len(left) == 0 or levels == 0 or some.randrange(9) == 0:
        return ()
    match = some.choice(left)
    rows = list(enumerate(match))
    trees = []
    for t, row in enumerate(rows):
        if row in spared:
            trees.append(None)
        else:
            below = (struck | {row}, spared | set(rows[:t]))
            trees.append(some_right_tree(some, matches, tables, levels - 1, *below))
    return (match, tuple(trees))


if __name__ == "__main__":
    unittest.main()
