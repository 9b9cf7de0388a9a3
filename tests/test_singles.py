"""Tests of viewstrike.singles: single_strike, single_losses, best_table."""

import unittest

from tests.definitions import all_strikes, groups_by_definition, loss_by_definition, single_by_definition
from tests.definitions import struck_by_definition
from tests.samples import PATH, sample_stores
from viewstrike.singles import best_table, single_losses, single_strike
from viewstrike.strikes import require_strike, takes_out

STORE = (((0, 0), (0, 1), (1, 0)), ((0, 0), (1, 0), (1, 1)))
SAMPLES = sample_stores(300)


class SinglesTest(unittest.TestCase):
    def test_example_of_the_interface(self):
        told = (
            single_strike(PATH, STORE, (0, 0), 0),
            single_losses(PATH, STORE, (0, 0)),
            best_table(PATH, STORE, (0, 0)),
        )
        self.assertEqual(told, (((0, 0), (0, 1)), (1, 1), 0))

    def test_each_table(self):
        self.assertEqual(single_strike(PATH, STORE, (0, 0), 1), ((1, 0), (1, 1)))
        self.assertEqual(single_strike(PATH, STORE, (0, 1), 0), ((0, 1),))
        self.assertEqual(single_strike(PATH, STORE, (0, 1), 1), ((1, 2),))
        self.assertEqual(single_strike(PATH, STORE, (1, 0), 0), ((0, 2),))
        self.assertEqual(single_strike(PATH, STORE, (1, 0), 1), ((1, 0),))

    def test_losses_of_an_answer_with_several_matches(self):
        query = ((0, 1), ((0, 2), (2, 1)))
        store = (((0, 0), (0, 1), (1, 1)), ((0, 5), (1, 5)))
        self.assertEqual(single_strike(query, store, (0, 5), 0), ((0, 0), (0, 1)))
        self.assertEqual(single_strike(query, store, (0, 5), 1), ((1, 0), (1, 1)))
        self.assertEqual((single_losses(query, store, (0, 5)), best_table(query, store, (0, 5))), ((0, 1), 0))

    def test_the_best_table_may_be_a_later_one(self):
        query = ((0, 1), ((0,), (0, 1), (1,)))
        store = (((0,),), ((0, 1), (0, 2)), ((1,), (2,)))
        self.assertEqual((single_losses(query, store, (0, 2)), best_table(query, store, (0, 2))), ((1, 0, 0), 1))
        store = (((0,), (1,)), ((0, 1), (1, 1)), ((1,),))
        self.assertEqual((single_losses(query, store, (0, 1)), best_table(query, store, (0, 1))), ((0, 0, 1), 0))
        query, store = ((0, 1), ((0,), (1,))), (((0,), (1,)), ((5,),))
        self.assertEqual((single_losses(query, store, (1, 5)), best_table(query, store, (1, 5))), ((0, 1), 0))
        query, store = ((0, 1), ((1,), (0,))), (((5,),), ((0,), (1,)))
        self.assertEqual((single_losses(query, store, (1, 5)), best_table(query, store, (1, 5))), ((1, 0), 1))

    def test_a_tie_goes_to_the_first_table(self):
        query, store = ((0,), ((0, 1), (0,), (1,))), (((0, 0), (0, 1)), ((0,),), ((0,), (1,)))
        self.assertEqual((single_losses(query, store, (0,)), best_table(query, store, (0,))), ((0, 0, 0), 0))

    def test_an_empty_head(self):
        query = ((), PATH[1])
        self.assertEqual(single_strike(query, STORE, (), 0), ((0, 0), (0, 1), (0, 2)))
        self.assertEqual((single_losses(query, STORE, ()), best_table(query, STORE, ())), ((0, 0), 0))

    def test_rows_in_no_match_of_the_answer_are_left_alone(self):
        store = (((0, 0), (0, 5)), ((0, 0), (6, 0)))
        self.assertEqual(single_strike(PATH, store, (0, 0), 0), ((0, 0),))
        self.assertEqual(single_strike(PATH, store, (0, 0), 1), ((1, 0),))

    def test_one_table(self):
        query, store = ((1,), ((0, 1),)), (((0, 0), (0, 1), (1, 1)),)
        self.assertEqual(single_strike(query, store, (1,), 0), ((0, 1), (0, 2)))
        self.assertEqual((single_losses(query, store, (1,)), best_table(query, store, (1,))), ((0,), 0))

    def test_by_the_definition(self):
        best = []
        for query, _, store in SAMPLES:
            groups = groups_by_definition(query, store)
            tables = range(len(store))
            for answer in list(groups)[:6]:
                strikes = [single_by_definition(groups, answer, t) for t in tables]
                for t in tables:
                    self.assertEqual(single_strike(query, store, answer, t), strikes[t])
                    self.assertEqual(single_strike(t=t, answer=answer, store=store, query=query), strikes[t])
                losses = tuple([loss_by_definition(groups, strike, (answer,)) for strike in strikes])
                self.assertEqual(single_losses(query, store, answer), losses)
                self.assertEqual(single_losses(answer=answer, store=store, query=query), losses)
                least = [t for t in tables if losses[t] == min(losses)][0]
                self.assertEqual(best_table(query, store, answer), least)
                self.assertEqual(best_table(answer=answer, store=store, query=query), least)
                best.append(least)
        self.assertTrue(best.count(1) >= 10 and best.count(2) >= 3)

    def test_every_strike_in_one_table_that_takes_the_answer_out_contains_it(self):
        for query, _, store in [told for told in SAMPLES if sum(map(len, told[2])) <= 8]:
            groups = groups_by_definition(query, store)
            for answer in list(groups)[:2]:
                for t in range(len(store)):
                    single = single_strike(query, store, answer, t)
                    self.assertIs(require_strike(store, single), single)
                    self.assertIs(takes_out(query, store, single, (answer,)), True)
                    for strike in all_strikes(store):
                        if {table for table, _ in strike} == {t} and answer in struck_by_definition(groups, strike):
                            self.assertTrue(set(single) <= set(strike))

    def test_full_tables(self):
        query = ((0, 1, 2, 3, 4), ((0,), (1,), (2,), (3,), (4,)))
        store = (tuple([(k,) for k in range(12)]),) * 5
        self.assertEqual(single_losses(query, store, (1, 2, 3, 4, 5)), (12**4 - 1,) * 5)


if __name__ == "__main__":
    unittest.main()
