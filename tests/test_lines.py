"""Tests of viewstrike.lines: is_line, line_for, triad_of, gap_for."""

import copy
import itertools
import unittest

from tests.definitions import all_rows, groups_by_definition, has_store_form
from tests.pricereference import (
    cheapest_by_definition,
    has_line,
    is_triad,
    order_form,
    price_path,
    prices_form,
    scattered,
)
from tests.pricesamples import STAR, TRIANGLE, TRIPOD, queries_for_lines
from tests.reference import tree_form
from tests.samples import LONG, ODD_VALUES, PATH, sample_pairs
from viewstrike.house import House
from viewstrike.lines import gap_for, is_line, line_for, triad_of
from viewstrike.prices import is_price_tree

QUERIES = queries_for_lines(500) + [query for query, _ in sample_pairs(300)] + [LONG]
# Without lines, in ways of their own: seven variables, heads, a variable in all atoms, atoms beside the triad.
KNOTS = (
    TRIANGLE,
    TRIPOD,
    STAR,
    ((3,), ((3, 0, 1), (1, 3, 2), (2, 3, 0))),
    ((), ((6, 0, 1), (1, 6, 2), (2, 6, 0))),
    ((), ((0, 1), (1, 2), (2, 3), (3, 4), (4, 0))),
    ((), ((0, 1), (1, 2), (2, 3), (3, 0))),
    ((), ((0, 1), (1, 2), (2, 0), (3,), (4, 5, 6))),
    ((4,), ((0, 1), (1, 2), (2, 0), (4,), (4, 3))),
    ((), ((0, 3), (1, 4), (2, 5), (0, 1, 2), (3, 6))),
    ((6,), ((0, 3), (1, 4), (2, 5), (3, 4, 5, 6), (6,))),
    ((), ((0,), (1,), (2,), (0, 3, 2), (3, 1))),
    ((), ((0, 1), (1, 2), (2, 0), (0, 1, 2), (0, 1, 2))),
)


class LineTest(unittest.TestCase):
    def test_examples_of_the_interface(self):
        self.assertIs(is_line(((), ((0, 1), (2,), (1, 2))), (0, 2, 1)), True)
        self.assertIsNone(line_for(TRIANGLE))
        self.assertEqual(triad_of(TRIANGLE), (0, 1, 2))

    def test_values_of_any_kind(self):
        query = ((), ((0, 1), (2,), (1, 2)))
        wrong = ODD_VALUES + (
            7, "021", [0, 2, 1], (0, 2), (0, 2, 1, 1), (0, 2, 2), (0, 2, 3), (0, 2, -1), (False, 2, 1), (0, 2, True),
            (),
            (0, 2, None), ("0", "2", "1"), ((0, 2, 1),), {0: 0, 2: 1, 1: 2}, (0,) * 1000000, House(query, ()), b"\x00",
            (0, 2, (1,)), (0, 2, [1]), (0, 2, 10**40), (0, 0, 0),
        )
        for value in wrong:
            before = value if isinstance(value, House) else copy.deepcopy(value)
            self.assertIs(is_line(query, value), False, value)
            self.assertEqual(value, before)
        self.assertIs(is_line(value=(1, 2, 0), query=query), True)
        self.assertIs(is_line(query, (0, 1, 2)), False)

    def test_every_order(self):
        for query in QUERIES:
            many = len(query[1])
            for order in itertools.permutations(range(many)):
                self.assertIs(is_line(query, order), scattered(query, order) == [])
            for value in ((0,) * many, tuple(range(many - 1)), tuple(range(many + 1)), tuple(range(1, many + 1))):
                told = order_form(query, value) and not scattered(query, value)
                self.assertIs(is_line(query, value), told)

    def test_a_line_exactly_where_one_of_all_orders_is_one(self):
        told = []
        for query in QUERIES:
            line = line_for(query)
            told.append(line is None)
            self.assertEqual(line is None, not has_line(query), query)
            if line is not None:
                self.assertTrue(order_form(query, line) and not scattered(query, line))
                self.assertIs(is_line(query, line), True)
            self.assertEqual(line_for(query=query), line)
        self.assertTrue(min(told.count(True), told.count(False)) >= 100)

    def test_lines_that_are_the_only_ones(self):
        query = ((), ((1, 2), (3, 0), (2, 3), (0,), (4, 1)))
        self.assertIn(line_for(query), ((4, 0, 2, 1, 3), (3, 1, 2, 0, 4)))
        self.assertEqual(line_for(((), ((5,),))), (0,))
        self.assertIs(is_line(((0, 1, 2), TRIANGLE[1]), (2, 0, 1)), True)
        self.assertIsNotNone(line_for(((0,), TRIANGLE[1])))

    def test_a_variable_of_the_head_may_be_scattered(self):
        self.assertIs(is_line(((0,), ((0,), (1,), (0, 2))), (0, 1, 2)), True)
        self.assertIs(is_line(((), ((0,), (1,), (0, 2))), (0, 1, 2)), False)
        self.assertIs(is_line(((2,), ((0,), (1,), (0, 2))), (0, 1, 2)), False)


class TriadTest(unittest.TestCase):
    def test_a_triad_exactly_where_there_is_no_line(self):
        for query in QUERIES + list(KNOTS):
            triad = triad_of(query)
            self.assertEqual(triad is None, has_line(query), query)
            if triad is None:
                trios = itertools.combinations(range(len(query[1])), 3)
                self.assertFalse(any(is_triad(query, trio) for trio in trios))
            else:
                self.assertTrue(is_triad(query, triad), query)
            self.assertEqual(triad_of(query=query), triad)

    def test_triads_that_are_the_only_ones(self):
        self.assertEqual(triad_of(TRIPOD), (0, 1, 2))
        self.assertEqual(triad_of(STAR), (0, 1, 2))
        self.assertEqual(triad_of(((), ((0, 1, 2), (1,), (0,), (2,)))), (1, 2, 3))
        self.assertEqual(triad_of(((), ((3,), (0, 1), (4, 5, 6), (1, 2), (2, 0)))), (1, 3, 4))
        self.assertIsNone(triad_of(((2,), TRIANGLE[1])))
        self.assertIsNone(triad_of(((), ((0, 1), (1, 2)))))
        # What all three have is no path, though it joins them.
        self.assertIsNone(triad_of(((), ((0, 1), (0, 2), (0, 3)))))


class GapTest(unittest.TestCase):
    def check_gap(self, query):
        told = gap_for(query)
        if has_line(query):
            self.assertIsNone(told)
            return
        self.assertIs(type(told), tuple)
        store, prices, answer, halves, tree = told
        self.assertTrue(has_store_form(query, store) and prices_form(store, prices) and prices_form(store, halves))
        groups = groups_by_definition(query, store)
        self.assertIn(answer, groups)
        for match in groups[answer]:
            self.assertGreaterEqual(sum(halves[t][r] for t, r in enumerate(match)), 2)
        worth = sum(halves[t][r] * prices[t][r] for t, r in all_rows(store))
        n = worth // 2 + 1
        self.assertTrue(2 * n > worth >= 2 * (n - 1))
        self.assertTrue(tree_form(store, tree))
        self.assertIsNone(price_path(groups[answer], prices, n, tree, frozenset(), frozenset()))
        self.assertIs(is_price_tree(query, store, prices, answer, n, tree), True)
        self.assertEqual(gap_for(query=query), told)

    def test_sampled_queries(self):
        told = []
        for query in QUERIES[:150]:
            self.check_gap(query)
            told.append(has_line(query))
        self.assertGreaterEqual(told.count(False), 40)

    def test_queries_of_special_forms(self):
        for query in KNOTS:
            self.assertFalse(has_line(query), query)
            self.check_gap(query)
        self.assertIsNone(gap_for(PATH))

    def test_by_all_strikes_of_a_small_triangle_store(self):
        # The triangle query's gap has too many rows for all strikes; those of cheap rows are enough.
        store, prices, answer, halves, _ = gap_for(TRIANGLE)
        cheap = [row for row in all_rows(store) if prices[row[0]][row[1]] < 10]
        matches = groups_by_definition(TRIANGLE, store)[answer]
        hits = [
            len(strike)
            for many in range(len(cheap) + 1)
            for strike in itertools.combinations(cheap, many)
            if all(set(enumerate(match)) & set(strike) for match in matches)
        ]
        worth = sum(halves[t][r] * prices[t][r] for t, r in all_rows(store))
        self.assertGreater(2 * min(hits), worth)

    def test_cheapest_prices_stay_what_they_are(self):
        # A small store of a query without a line, in which loads reach the cheapest price all the same.
        store = (((0, 0),), ((0, 0),), ((0, 0),))
        self.assertEqual(cheapest_by_definition(TRIANGLE, store, ((3,), (2,), (4,)), ()), 2)


if __name__ == "__main__":
    unittest.main()
