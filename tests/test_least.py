"""Tests of viewstrike.least: least_loss, best_strike."""

import unittest

from tests.definitions import least_by_definition, losses_by_definition, outcomes_of
from tests.reference import tree_fault
from tests.samples import PATH, RICH, grid, situations
from viewstrike.least import best_strike, least_loss
from viewstrike.search import right_tree
from viewstrike.sight import Sight
from viewstrike.stores import view_of
from viewstrike.strikes import loss_of, require_strike, struck_by

STORE = (((0, 0), (0, 1), (1, 0)), ((0, 0), (1, 0), (1, 1)))
FOUR = RICH[2]
SITUATIONS = situations(260)
FULL = situations(16, 12, 9)


class LeastTest(unittest.TestCase):
    def check_situation(self, query, store, wished, kept, outcomes):
        losses = losses_by_definition(outcomes, wished, kept)
        least = least_by_definition(outcomes, wished, kept)
        told = least_loss(query, store, wished, kept=kept)
        self.assertEqual((type(told), told), (type(least), least))
        strike = best_strike(query, store, wished, kept=kept)
        if least is None:
            self.assertIsNone(strike)
        else:
            self.assertIs(require_strike(store, strike), strike)
            self.assertEqual(losses[strike], least)

    def test_example_of_the_interface(self):
        told = (least_loss(PATH, STORE, ((0, 0),)), least_loss(PATH, STORE, ((0, 0), (1, 0))))
        self.assertEqual(told, (0, 0))

    def test_a_strike_through_two_tables_may_lose_least(self):
        self.assertEqual(least_loss(PATH, STORE, ((0, 0),)), 0)
        strike = best_strike(PATH, STORE, ((0, 0),))
        self.assertEqual(struck_by(PATH, STORE, strike), ((0, 0),))
        self.assertEqual({t for t, _ in strike}, {0, 1})

    def test_kept_answers_cost_more_or_forbid_it(self):
        query, store = grid((2, 2), (0, 1))
        self.assertEqual(least_loss(query, store, ((0, 0),)), 1)
        self.assertEqual(least_loss(query, store, ((0, 0),), kept=((0, 1),)), 1)
        self.assertEqual(best_strike(query, store, ((0, 0),), kept=((0, 1),)), ((1, 0),))
        self.assertEqual(best_strike(query, store, ((0, 0),), kept=((1, 0),)), ((0, 0),))
        self.assertIsNone(least_loss(query, store, ((0, 0),), kept=((0, 1), (1, 0))))
        self.assertIsNone(best_strike(query, store, ((0, 0),), kept=((0, 1), (1, 0))))
        query, store = grid((1, 3, 3), (1, 2))
        self.assertEqual(least_loss(query, store, ((0, 0), (0, 1))), 1)
        self.assertEqual(least_loss(query, store, ((0, 0), (0, 1)), kept=((0, 2),)), 4)

    def test_kept_left_out_is_no_kept_answers(self):
        for query, store, wished, _ in SITUATIONS[:60]:
            self.assertEqual(least_loss(query, store, wished), least_loss(query, store, wished, kept=()))
            self.assertEqual(best_strike(query, store, wished), best_strike(query, store, wished, kept=()))
            self.assertIsNotNone(least_loss(query, store, wished))

    def test_kept_is_passed_by_name_only(self):
        self.assertRaises(TypeError, least_loss, PATH, STORE, ((0, 0),), ())
        self.assertRaises(TypeError, best_strike, PATH, STORE, ((0, 0),), ())

    def test_all_arguments_by_name(self):
        for query, store, wished, kept in SITUATIONS[:60]:
            told = least_loss(kept=kept, wished=wished, store=store, query=query)
            self.assertEqual(told, least_loss(query, store, wished, kept=kept))
            told = best_strike(kept=kept, wished=wished, store=store, query=query)
            self.assertEqual(told, best_strike(query, store, wished, kept=kept))

    def test_an_empty_head(self):
        self.assertEqual(least_loss(((), PATH[1]), STORE, ((),)), 0)
        self.assertEqual(struck_by(((), PATH[1]), STORE, best_strike(((), PATH[1]), STORE, ((),))), ((),))

    def test_one_to_three_wished_answers_of_one_store(self):
        outcomes = outcomes_of(*FOUR)
        view = view_of(*FOUR)
        for wished in (view[:1], view[1:], view[:2], (view[0], view[3]), view[:3]):
            for kept in ((), view[:1], view[3:], (view[0], view[3]), view[2:]):
                if not set(wished) & set(kept):
                    self.check_situation(*FOUR, wished, kept, outcomes)

    def test_by_the_definition(self):
        seen = []
        for query, store, wished, kept in SITUATIONS:
            outcomes = outcomes_of(query, store)
            self.check_situation(query, store, wished, kept, outcomes)
            self.check_situation(query, store, wished, (), outcomes)
            seen.append((len(wished), len(kept), least_by_definition(outcomes, wished, kept)))
        self.assertTrue({1, 2, 3} == {wished for wished, _, _ in seen} and {0, 1, 2} == {kept for _, kept, _ in seen})
        losses = [least for _, _, least in seen]
        self.assertTrue(losses.count(None) >= 5 and losses.count(1) >= 5 and losses.count(2) >= 5)

    def test_stores_with_up_to_twelve_rows(self):
        for query, store, wished, kept in FULL:
            self.check_situation(query, store, wished, kept, outcomes_of(query, store))

    def test_twelve_rows_by_counting(self):
        query, store = grid((3, 3, 2, 2, 2), (0, 1, 2, 3, 4))
        self.assertEqual(least_loss(query, store, ((0, 0, 0, 0, 0),)), 23)
        query, store = grid((6, 6), (0, 1))
        self.assertEqual(least_loss(query, store, ((0, 0), (1, 1))), 9)
        self.assertEqual(least_loss(query, store, ((0, 0), (1, 1)), kept=((0, 1),)), 9)
        self.assertIsNone(least_loss(query, store, ((0, 0), (1, 1)), kept=((0, 1), (1, 0))))
        query, store = grid((12,), (0,))
        self.assertEqual(least_loss(query, store, ((3,), (5,), (9,)), kept=((0,), (11,))), 0)
        self.assertEqual(best_strike(query, store, ((3,), (5,), (9,))), ((0, 3), (0, 5), (0, 9)))

    def test_there_is_a_strike_tree_exactly_up_to_the_least_loss(self):
        for query, store, wished, kept in SITUATIONS:
            sight = Sight(query, store, wished, kept)
            least = least_loss(query, store, wished, kept=kept)
            for n in (None, 0, 1, 2, 5, 200):
                tree = right_tree(sight, n)
                if least is None or n is not None and n <= least:
                    self.assertIsNone(tree_fault(query, store, wished, kept, n, tree))
                else:
                    self.assertIsNone(tree)

    def test_the_loss_is_the_one_of_the_strike(self):
        for query, store, wished, kept in SITUATIONS:
            strike = best_strike(query, store, wished, kept=kept)
            if strike is not None:
                self.assertEqual(loss_of(query, store, strike, wished), least_loss(query, store, wished, kept=kept))


if __name__ == "__main__":
    unittest.main()
