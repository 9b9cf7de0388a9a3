"""Tests of viewstrike.keeps: staying_strike, surely_gone."""

import unittest

from tests.definitions import losses_by_definition, outcomes_of, surely_gone_by_definition
from tests.samples import PATH, grid, situations
from viewstrike.keeps import staying_strike, surely_gone
from viewstrike.strikes import require_strike

SHARED = (((0, 0), (1, 0), (2, 0)), ((0, 0), (0, 1)))
SITUATIONS = situations(500, 8, 10)
FULL = situations(16, 12, 11)


class StayingTest(unittest.TestCase):
    def check_situation(self, query, store, wished, kept):
        strikes = losses_by_definition(outcomes_of(query, store), wished, kept)
        strike = staying_strike(query, store, wished, kept)
        if len(strikes) == 0:
            self.assertIsNone(strike)
        else:
            self.assertIs(require_strike(store, strike), strike)
            self.assertIn(strike, strikes)
        self.assertEqual(staying_strike(kept=kept, wished=wished, store=store, query=query), strike)
        return strike is None

    def test_example_of_the_interface(self):
        told = (surely_gone(PATH, SHARED, ((0, 0),)), staying_strike(PATH, SHARED, ((0, 0),), ((0, 1), (1, 0))))
        self.assertEqual(told, (((0, 1),), None))

    def test_one_kept_answer_can_stay_where_two_cannot(self):
        self.assertEqual(staying_strike(PATH, SHARED, ((0, 0),), ((0, 1),)), ((1, 0),))
        self.assertEqual(staying_strike(PATH, SHARED, ((0, 0),), ((1, 0),)), ((0, 0),))
        query, store = grid((2, 2, 2), (0, 1, 2))
        self.assertIsNone(staying_strike(query, store, ((0, 0, 0),), ((0, 0, 1), (1, 1, 0))))
        self.assertEqual(staying_strike(query, store, ((0, 0, 0),), ((0, 0, 1), (1, 0, 1))), ((2, 0),))

    def test_no_kept_answers_can_always_stay(self):
        for query, store, wished, _ in SITUATIONS[:60]:
            self.assertIs(self.check_situation(query, store, wished, ()), False)

    def test_a_kept_answer_with_several_matches(self):
        query = ((0,), ((0, 1), (1,)))
        store = (((0, 0), (1, 0), (1, 1)), ((0,), (1,)))
        self.assertIsNotNone(staying_strike(query, store, ((0,),), ((1,),)))
        self.assertIsNotNone(staying_strike(((0,), ((1,), (0, 1))), store[::-1], ((0,),), ((1,),)))
        query, store = ((2,), ((0,), (0, 2))), (((0,), (1,)), ((0, 0), (0, 1), (1, 1)))
        self.assertIsNotNone(staying_strike(query, store, ((0,),), ((1,),)))

    def test_an_answer_all_of_whose_rows_are_needed_by_the_kept_ones(self):
        query, store = grid((2, 2), (0, 1))
        self.assertIsNone(staying_strike(query, store, ((0, 0),), ((0, 1), (1, 0))))
        self.assertIsNone(staying_strike(query, store, ((0, 0), (1, 1)), ((0, 1), (1, 0))))

    def test_by_the_definition(self):
        lost = [self.check_situation(*situation) for situation in SITUATIONS]
        self.assertTrue(lost.count(True) >= 5 and lost.count(False) >= 50)

    def test_stores_with_up_to_twelve_rows(self):
        for situation in FULL:
            self.check_situation(*situation)


class SurelyGoneTest(unittest.TestCase):
    def check_situation(self, query, store, wished):
        gone = surely_gone(query, store, wished)
        self.assertIs(type(gone), tuple)
        self.assertEqual(gone, surely_gone_by_definition(outcomes_of(query, store), wished))
        self.assertEqual(surely_gone(wished=wished, store=store, query=query), gone)
        return len(gone)

    def test_an_answer_goes_surely_only_if_each_best_strike_strikes_it(self):
        query, store = grid((2, 2), (0, 1))
        self.assertEqual(surely_gone(query, store, ((0, 0),)), ())
        query, store = grid((3, 2), (0, 1))
        self.assertEqual(surely_gone(query, store, ((0, 0),)), ((0, 1),))
        self.assertEqual(surely_gone(query, store, ((0, 0), (1, 1))), ())
        self.assertEqual(surely_gone(query, store, ((0, 0), (1, 0), (2, 0))), ())

    def test_several_go_in_ascending_order(self):
        query, store = grid((4, 3), (0, 1))
        self.assertEqual(surely_gone(query, store, ((2, 1),)), ((2, 0), (2, 2)))

    def test_nothing_goes_where_nothing_is_lost(self):
        query, store = grid((1, 3), (1,))
        self.assertEqual(surely_gone(query, store, ((1,),)), ())
        self.assertEqual(surely_gone(((), PATH[1]), SHARED, ((),)), ())

    def test_by_the_definition(self):
        many = [self.check_situation(query, store, wished) for query, store, wished, _ in SITUATIONS]
        self.assertTrue(many.count(0) >= 20 and many.count(1) >= 5 and max(many) >= 2)

    def test_stores_with_up_to_twelve_rows(self):
        for query, store, wished, _ in FULL:
            self.check_situation(query, store, wished)


if __name__ == "__main__":
    unittest.main()
