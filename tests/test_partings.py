"""Tests of viewstrike.partings: parting_for, parting_for_table, and that they are told exactly where they must be."""

import random
import unittest

from tests.definitions import all_strikes, groups_by_definition, has_store_form, keeps_by_definition
from tests.definitions import loss_by_definition, single_by_definition, takes_out_by_definition
from tests.samples import KEY, LONG, LONG_RULES, PATH, keeping, knotty_pairs, sample_pairs, some_store
from viewstrike.partings import costly_store, parting_for, parting_for_table
from viewstrike.rules import does_cover, is_headed, parts_of
from viewstrike.strikes import require_strike

SAMPLES = sample_pairs(400) + knotty_pairs(600)
EMPTY_HEAD = ((), ((0, 1), (1, 2), (3,)))
FULL_HEAD = ((0, 1, 2, 3), ((0, 1), (1, 2), (3,)))
TWO_PARTS = ((0, 2, 3, 5), ((0, 1), (1, 2), (3, 4), (4, 5)))
STAR = ((1, 2, 3, 4), ((0, 1), (0, 2), (0, 3), (0, 4)))
# The part of atoms 1 and 2 is covered by atom 0, which stands outside of it.
OUTSIDE = ((0, 1, 3), ((0, 1, 3), (0, 2), (2, 1), (3, 4)))


class PartingTest(unittest.TestCase):
    def check_parting(self, query, rules, parting, tables):
        """Check it by its matches and losses, against the single strikes of these tables."""
        self.assertIs(type(parting), tuple)
        store, answer, strike = parting
        self.assertTrue(has_store_form(query, store))
        self.assertTrue(keeps_by_definition(query, rules, store))
        groups = groups_by_definition(query, store)
        self.assertTrue(sum([len(matches) for matches in groups.values()]) <= 12)
        self.assertIn(answer, groups)
        self.assertTrue(type(answer) is tuple and all(type(worth) is int for worth in answer))
        self.assertIs(require_strike(store, strike), strike)
        self.assertTrue(takes_out_by_definition(groups, strike, (answer,)))
        loss = loss_by_definition(groups, strike, (answer,))
        for t in tables:
            self.assertLess(loss, loss_by_definition(groups, single_by_definition(groups, answer, t), (answer,)))

    def check_query(self, query, rules):
        tables = range(len(query[1]))
        parting = parting_for(query, rules)
        self.assertEqual(parting_for(rules=rules, query=query), parting)
        if is_headed(query, rules):
            self.assertIsNone(parting)
        else:
            self.check_parting(query, rules, parting, tables)
        for t in tables:
            parting = parting_for_table(query, rules, t)
            self.assertEqual(parting_for_table(t=t, rules=rules, query=query), parting)
            if all(does_cover(query, rules, t, part) for part in parts_of(query, rules)):
                self.assertIsNone(parting)
            else:
                self.check_parting(query, rules, parting, (t,))

    def test_example_of_the_interface(self):
        told = (parting_for(PATH, KEY), parting_for(PATH, ()) is None, parting_for_table(PATH, KEY, 0) is None)
        self.assertEqual(told, (None, False, False))

    def test_a_path_without_rules(self):
        self.assertFalse(is_headed(PATH, ()))
        self.check_query(PATH, ())

    def test_a_headed_query_with_tables_that_are_not_always_best(self):
        self.check_query(PATH, KEY)
        self.assertIsNotNone(parting_for_table(PATH, KEY, 0))
        self.assertIsNotNone(parting_for_table(PATH, KEY, 1))
        self.assertIsNone(parting_for_table(PATH, KEY + ((0, (2,), 0),), 1))

    def test_an_empty_head(self):
        self.check_query(EMPTY_HEAD, ())
        for rules in ((), ((0, (), 1),), ((1, (2,), 1), (2, (), 3))):
            self.assertIsNone(parting_for(EMPTY_HEAD, rules))
            for t in range(3):
                self.assertIsNone(parting_for_table(EMPTY_HEAD, rules, t))

    def test_a_full_head(self):
        self.check_query(FULL_HEAD, ())
        self.assertIsNone(parting_for(FULL_HEAD, ()))
        self.assertEqual([parting_for_table(FULL_HEAD, (), t) is None for t in range(3)], [False] * 3)

    def test_one_atom_is_always_best(self):
        for query in (((0,), ((0, 1, 2),)), ((), ((3,),)), ((0, 1, 2, 3), ((3, 2, 1, 0),))):
            self.check_query(query, ())
            self.assertIsNone(parting_for_table(query, (), 0))

    def test_five_atoms_over_seven_variables(self):
        self.check_query(LONG, ())
        self.check_query(LONG, LONG_RULES)
        self.check_query(((0, 1, 2, 3, 4, 5, 6), LONG[1]), LONG_RULES)
        self.check_query(((0, 6), ((0, 1, 2), (1, 3), (2, 4), (3, 4, 5), (5, 6))), ())

    def test_several_parts(self):
        self.check_query(TWO_PARTS, ())
        self.assertIsNotNone(parting_for(TWO_PARTS, ()))
        for rules in (((0, (1,), 0),), ((3, (4,), 5),), ((0, (1,), 0), (3, (4,), 5))):
            self.check_query(TWO_PARTS, rules)

    def test_only_a_later_part_is_not_covered(self):
        query = ((0, 2, 3), ((0, 1), (1,), (2, 4), (4, 3)))
        self.assertFalse(is_headed(query, ()))
        self.check_query(query, ())

    def test_parts_that_no_atom_of_them_covers(self):
        self.check_query(OUTSIDE, ())
        self.assertIsNone(parting_for(OUTSIDE, ()))
        self.assertIsNone(parting_for_table(OUTSIDE, (), 0))
        self.assertIsNotNone(parting_for_table(OUTSIDE, (), 1))

    def test_a_star(self):
        self.check_query(STAR, ())
        self.check_query(STAR, ((0, (0,), 1), (1, (0,), 2), (2, (0,), 3)))
        self.check_query(STAR, ((0, (0,), 1), (1, (0,), 2), (2, (0,), 3), (3, (0,), 4)))

    def test_atoms_that_stand_several_times(self):
        query = ((0, 1), ((0, 2), (0, 2), (2, 1), (2, 1), (1, 2)))
        self.check_query(query, ())
        self.check_query(query, ((0, (2,), 0),))

    def test_rules_without_xs(self):
        self.check_query(PATH, ((0, (), 2),))
        self.check_query(PATH, ((0, (), 0),))
        self.check_query(LONG, ((0, (), 0), (4, (), 6)))

    def test_exactly_where_the_document_says_so(self):
        headed = []
        for query, rules in SAMPLES:
            self.check_query(query, rules)
            headed.append(is_headed(query, rules))
        self.assertTrue(min(headed.count(True), headed.count(False)) >= 100)

    def test_arguments_are_not_modified(self):
        # All arguments are tuples, so a change could only be seen in later answers.
        for query, rules in SAMPLES[::20]:
            self.assertEqual(parting_for(query, rules), parting_for(query, rules))


class AlwaysBestTest(unittest.TestCase):
    """Where there is no parting, no store parts: all strikes of some stores are gone through."""

    def check_store(self, query, store, tables):
        groups = groups_by_definition(query, store)
        for answer in list(groups)[:3]:
            least = min(
                loss_by_definition(groups, strike, (answer,))
                for strike in all_strikes(store)
                if takes_out_by_definition(groups, strike, (answer,))
            )
            losses = [loss_by_definition(groups, single_by_definition(groups, answer, t), (answer,)) for t in tables]
            self.assertEqual(min(losses), least)

    def test_no_strike_beats_the_single_ones(self):
        some = random.Random(6)
        for query, rules in SAMPLES[::5]:
            store = keeping(query, rules, some_store(some, query, 8, some.choice((2, 3))))
            if parting_for(query, rules) is None:
                self.check_store(query, store, range(len(store)))
            for t in range(len(store)):
                if parting_for_table(query, rules, t) is None:
                    self.check_store(query, store, (t,))


class CostlyStoreTest(unittest.TestCase):
    def test_the_answer_of_zeros_has_one_match_and_each_of_its_rows_is_needed(self):
        many = 0
        for query, rules in SAMPLES + [(LONG, ()), (FULL_HEAD, ()), (TWO_PARTS, ()), (STAR, ())]:
            parts = parts_of(query, rules)
            if not any(all(does_cover(query, rules, t, part) for part in parts) for t in range(len(query[1]))):
                many += 1
                self.check_store(query, rules, costly_store(query, rules))
        self.assertTrue(many >= 50)

    def check_store(self, query, rules, store):
        self.assertTrue(has_store_form(query, store))
        self.assertTrue(keeps_by_definition(query, rules, store))
        groups = groups_by_definition(query, store)
        zeros = (0,) * len(query[0])
        self.assertEqual(len(groups[zeros]), 1)
        self.assertTrue(sum([len(matches) for matches in groups.values()]) <= 40)
        for row in enumerate(groups[zeros][0]):
            self.assertGreater(loss_by_definition(groups, (row,), (zeros,)), 0)


if __name__ == "__main__":
    unittest.main()
