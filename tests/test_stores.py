"""Tests of viewstrike.stores: require_store, does_keep, matches_of, answer_of, view_of."""

import copy
import itertools
import random
import unittest

from tests.definitions import answer_by_definition, keeps_by_definition, matches_by_definition
from tests.samples import KEY, ODD_VALUES, PATH, sample_pairs, sample_stores, some_store
from viewstrike.errors import InvalidStore
from viewstrike.stores import answer_of, does_keep, is_shown, matches_of, matches_with, require_store, view_of

STORE = (((0, 0), (0, 1), (1, 0)), ((0, 0), (1, 0), (1, 1)))
ONE = ((0,), ((0, 1),))
FIVE = ((0, 1, 2, 3, 4), ((0,), (1,), (2,), (3,), (4,)))
SAMPLES = sample_stores(400)


class RequireStoreTest(unittest.TestCase):
    def check_fault(self, query, rules, value, table, row):
        before = copy.deepcopy(value)
        with self.assertRaises(InvalidStore) as caught:
            require_store(query, rules, value)
        error = caught.exception
        self.assertIsInstance(error, ValueError)
        self.assertEqual((type(error.table), error.table), (type(table), table), value)
        self.assertEqual((type(error.row), error.row), (type(row), row), value)
        self.assertEqual(value, before)

    def test_stores_come_back_as_they_are(self):
        for query, rules, store in (
            (PATH, (), STORE),
            (PATH, (), ((), ())),
            (PATH, KEY, ((), ((0, 999), (999, 0)))),
            (PATH, KEY, (((0, 5), (1, 5), (2, 4)), ())),
            (PATH, (), (tuple([(k, 0) for k in range(12)]), tuple([(0, 988 + k) for k in range(12)]))),
            (ONE, ((0, (), 1),), (((0, 7), (1, 7), (2, 7)),)),
            (FIVE, (), tuple([tuple([(k,) for k in range(12)])] * 5)),
        ):
            self.assertIs(require_store(query, rules, store), store)
            self.assertIs(require_store(value=store, rules=rules, query=query), store)

    def test_sampled_stores_come_back(self):
        for query, rules, store in SAMPLES:
            self.assertIs(require_store(query, rules, store), store)

    def test_none_where_it_has_not_one_table_for_each_atom(self):
        for value in ODD_VALUES + (0, 2, (), ((),), ((), (), ()), [(), ()], {0: (), 1: ()}, "ab", list(STORE)):
            self.check_fault(PATH, (), value, None, None)
        self.check_fault(PATH, (), ((((0,),),) * 1000000), None, None)
        self.check_fault(ONE, (), ((), ()), None, None)
        self.check_fault(ONE, (), (), None, None)

    def test_the_first_element_that_is_no_tuple_of_rows(self):
        for table in (None, True, 0, "", "01", [], [(0, 0)], {}, {0: (0, 0)}):
            self.check_fault(PATH, (), (table, ((0, 0),)), 0, None)
            self.check_fault(PATH, (), (((0, 0),), table), 1, None)
            self.check_fault(PATH, (), (table, table), 0, None)

    def test_twelve_rows_are_a_table_and_thirteen_are_none(self):
        rows = tuple([(k, k) for k in range(13)])
        self.assertEqual(require_store(PATH, (), (rows[1:], rows[:12])), (rows[1:], rows[:12]))
        self.check_fault(PATH, (), (rows, ()), 0, None)
        self.check_fault(PATH, (), ((), rows), 1, None)
        self.check_fault(PATH, (), ((), (None,) * 13), 1, None)
        self.check_fault(PATH, (), (((0, 0),), ((0, 0),) * 1000000), 1, None)

    def test_the_first_element_that_is_no_row(self):
        for row in ODD_VALUES + (
            0,
            (),
            (0,),
            (0, 0, 0),
            [0, 0],
            {0: 0, 1: 0},
            (-1, 0),
            (0, -1),
            (1000, 0),
            (0, 1000),
            (10**40, 0),
            (True, 0),
            (0, False),
            (0, None),
            ("0", "0"),
            (0, [0]),
            ([0], 0),
            ((0,), 0),
            (0, {}),
            "00",
        ):
            self.check_fault(PATH, (), ((row, (9, 9)), ()), 0, 0)
            self.check_fault(PATH, (), ((), (row,)), 1, 0)
            self.check_fault(PATH, (), (((0, 0),), ((0, 0), (0, 1), row, (0, 0), row)), 1, 2)

    def test_the_values_0_and_999_are_ones_and_others_are_none(self):
        self.assertEqual(require_store(ONE, (), (((0, 999), (999, 0)),)), (((0, 999), (999, 0)),))
        for row in ((0, 1000), (1000, 999), (-1, 0), (0, -1), (999, 10**9)):
            self.check_fault(ONE, (), (((0, 0), row),), 0, 1)

    def test_rows_of_another_length_than_the_atom(self):
        query = ((), ((0, 1, 2), (3,)))
        self.check_fault(query, (), (((0, 0),), ((0,),)), 0, 0)
        self.check_fault(query, (), (((0, 0, 0),), ((0,), (1, 1))), 1, 1)
        self.check_fault(query, (), (((0, 0, 0), (0, 0, 1, 0)), ((0, 0),)), 0, 1)

    def test_rows_that_fall_or_stand_twice(self):
        self.check_fault(PATH, (), (((0, 0), (0, 0)), ()), 0, 1)
        self.check_fault(PATH, (), (((0, 1), (0, 0)), ()), 0, 1)
        self.check_fault(PATH, (), ((), ((0, 9), (1, 0), (2, 5), (2, 4), (0, 0))), 1, 3)
        self.check_fault(PATH, (), ((), ((0, 0), (1, 1), (1, 1))), 1, 2)

    def test_a_row_that_is_none_comes_before_a_later_one_that_falls(self):
        self.check_fault(PATH, (), (((5, 5), (6, None), (0, 0)), ()), 0, 1)
        self.check_fault(PATH, (), (((5, 5), (0, 0), (6, None)), ()), 0, 1)

    def test_the_first_table_comes_first(self):
        self.check_fault(PATH, (), (((0, 0), (0, 0)), []), 0, 1)
        self.check_fault(PATH, (), (None, ((0, 0), (0, 0))), 0, None)
        self.check_fault(PATH, (), (((0, 0),), ((1000, 0),)), 1, 0)

    def test_a_rule_that_does_not_hold(self):
        self.check_fault(PATH, KEY, (((0, 0), (0, 1)), ()), 0, 1)
        self.check_fault(PATH, KEY, (((0, 0), (1, 1), (2, 0), (2, 5), (3, 0), (3, 1)), ()), 0, 3)
        self.check_fault(PATH, ((1, (1,), 2),), ((), ((0, 0), (1, 1), (2, 0))), 1, 2)

    def test_an_empty_xs_lets_all_rows_agree(self):
        rules = ((0, (), 2),)
        self.check_fault(PATH, rules, (((0, 4), (1, 4), (2, 5), (3, 6)), ()), 0, 2)
        store = (((0, 4), (1, 4), (2, 4)), ((4, 4),))
        self.assertIs(require_store(PATH, rules, store), store)

    def test_the_first_rule_comes_first_whatever_its_table(self):
        store = (((0, 0), (0, 1)), ((0, 0), (0, 1)))
        rules = ((1, (2,), 1), (0, (0,), 2))
        self.check_fault(PATH, rules, store, 1, 1)
        self.check_fault(PATH, rules[::-1], store, 0, 1)
        self.check_fault(PATH, ((0, (2,), 0), (1, (1,), 2)) + rules, store, 1, 1)

    def test_of_one_table_the_first_rule_and_not_the_first_row(self):
        store = (((0, 0), (0, 1), (1, 0)), ())
        self.check_fault(PATH, ((0, (2,), 0), (0, (0,), 2)), store, 0, 2)
        self.check_fault(PATH, ((0, (0,), 2), (0, (2,), 0)), store, 0, 1)

    def test_a_rule_with_several_xs_in_the_sequence_of_another_atom(self):
        query = ((), ((3, 1, 2),))
        rules = ((0, (1, 3), 2),)
        self.check_fault(query, rules, (((0, 0, 0), (0, 1, 5), (0, 1, 6), (1, 0, 1)),), 0, 2)
        store = (((0, 0, 0), (0, 1, 5), (1, 0, 1), (1, 1, 2)),)
        self.assertIs(require_store(query, rules, store), store)

    def test_a_fault_of_form_in_any_table_comes_before_the_rules(self):
        broken = ((0, 0), (0, 1))
        self.check_fault(PATH, KEY, (broken, None), 1, None)
        self.check_fault(PATH, KEY, (broken, ((0, 0), (0, 0))), 1, 1)
        self.check_fault(PATH, KEY, (broken, ((0,),)), 1, 0)

    def test_the_row_of_a_broken_rule_by_the_definition(self):
        for query, rules in sample_pairs(200):
            for store in wild_stores(query):
                told = first_fault_of_rules(query, rules, store)
                if told is None:
                    self.assertIs(require_store(query, rules, store), store)
                else:
                    self.check_fault(query, rules, store, *told)

    def test_long_and_deep_values(self):
        deep = ()
        for _ in range(97):
            deep = (deep,)
        self.check_fault(PATH, (), (deep, ()), 0, 0)
        self.check_fault(PATH, (), (((deep, 0),), ()), 0, 0)
        self.check_fault(PATH, (), (((0,) * 1000000,), ()), 0, 0)


def wild_stores(query):
    """Return some stores that may break rules."""
    some = random.Random(str(query))
    return [some_store(some, query, 14, worths) for worths in (2, 3, 3)]


def first_fault_of_rules(query, rules, store):
    """Return the table and row of the first rule that does not hold, or None."""
    for t, xs, y in rules:
        atom, table = query[1][t], store[t]
        for late, early in itertools.product(range(len(table)), repeat=2):
            agree = all(table[late][atom.index(x)] == table[early][atom.index(x)] for x in xs)
            if early < late and agree and table[late][atom.index(y)] != table[early][atom.index(y)]:
                return (t, late)
    return None


class KeepTest(unittest.TestCase):
    def test_ordinary_stores(self):
        self.assertIs(does_keep(PATH, (), STORE), True)
        self.assertIs(does_keep(PATH, KEY, STORE), False)
        self.assertIs(does_keep(PATH, KEY, STORE[::-1]), False)
        self.assertIs(does_keep(PATH, KEY, (STORE[0][1:], STORE[1])), True)
        self.assertIs(does_keep(PATH, KEY, ((), STORE[1])), True)

    def test_each_rule_counts(self):
        rules = KEY + ((1, (1,), 2),)
        self.assertIs(does_keep(PATH, rules, (STORE[0][1:], STORE[1])), False)
        self.assertIs(does_keep(PATH, rules, (STORE[0], STORE[1][1:])), False)
        self.assertIs(does_keep(PATH, rules, (STORE[0][1:], STORE[1][1:])), True)

    def test_by_the_definition(self):
        seen = []
        for query, rules in sample_pairs(300):
            for store in wild_stores(query):
                told = keeps_by_definition(query, rules, store)
                seen.append(told)
                self.assertIs(does_keep(query, rules, store), told)
                self.assertIs(does_keep(store=store, rules=rules, query=query), told)
        self.assertTrue(min(seen.count(True), seen.count(False)) >= 50)


class MatchesAndViewTest(unittest.TestCase):
    def test_example_of_the_interface(self):
        told = (matches_of(PATH, STORE), view_of(PATH, STORE))
        self.assertEqual(told, (((0, 0), (1, 1), (1, 2), (2, 0)), ((0, 0), (0, 1), (1, 0))))

    def test_empty_tables(self):
        for store in (((), ()), (STORE[0], ()), ((), STORE[1])):
            self.assertEqual((matches_of(PATH, store), view_of(PATH, store)), ((), ()))
        self.assertEqual(view_of(((), ((0,),)), ((),)), ())

    def test_an_empty_head(self):
        query = ((), PATH[1])
        self.assertEqual(view_of(query, STORE), ((),))
        self.assertEqual(view_of(query, (STORE[0], ((9, 9),))), ())
        self.assertEqual(answer_of(query, STORE, (0, 0)), ())

    def test_atoms_that_share_no_variable(self):
        query = ((0, 2), ((0, 1), (2,)))
        store = (((3, 0), (4, 4)), ((5,), (6,)))
        self.assertEqual(matches_of(query, store), ((0, 0), (0, 1), (1, 0), (1, 1)))
        self.assertEqual(view_of(query, store), ((3, 5), (3, 6), (4, 5), (4, 6)))

    def test_atoms_that_share_all_variables_in_another_sequence(self):
        query = ((1, 2), ((2, 1), (1, 2)))
        store = (((0, 7), (7, 0), (8, 8)), ((0, 7), (7, 1), (8, 8)))
        self.assertEqual(matches_of(query, store), ((1, 0), (2, 2)))
        self.assertEqual(view_of(query, store), ((0, 7), (8, 8)))
        self.assertEqual(answer_of(query, store, (1, 0)), (0, 7))

    def test_the_answer_has_the_sequence_of_the_head(self):
        query = ((1, 3, 5), ((5, 3), (3, 1)))
        store = (((9, 4),), ((4, 2),))
        self.assertEqual(answer_of(query, store, (0, 0)), (2, 4, 9))
        self.assertEqual(view_of(query, store), ((2, 4, 9),))

    def test_a_variable_in_several_atoms_but_not_in_neighbours(self):
        query = ((0,), ((0,), (1,), (0, 1), (0,)))
        store = (((0,), (1,)), ((2,), (3,)), ((0, 3), (1, 4), (2, 2)), ((0,), (1,), (2,)))
        self.assertEqual((matches_of(query, store), view_of(query, store)), (((0, 1, 0, 0),), ((0,),)))

    def test_several_matches_of_one_answer(self):
        query = ((0,), PATH[1])
        self.assertEqual(
            (matches_of(query, STORE)[:3], view_of(query, STORE)), (((0, 0), (1, 1), (1, 2)), ((0,), (1,)))
        )

    def test_five_full_tables(self):
        store = (tuple([(k,) for k in range(12)]),) * 5
        matches = matches_of(FIVE, store)
        self.assertEqual((len(matches), matches[0], matches[-1]), (12**5, (0,) * 5, (11,) * 5))
        self.assertEqual(matches, tuple(sorted(matches)))
        self.assertEqual(view_of(FIVE, store), matches)

    def test_by_the_definition(self):
        many = 0
        for query, rules, store in SAMPLES:
            matches = matches_by_definition(query, store)
            many += len(matches)
            self.assertEqual(matches_of(query, store), matches)
            self.assertEqual(matches_of(store=store, query=query), matches)
            answers = [answer_by_definition(query, store, match) for match in matches]
            self.assertEqual([answer_of(query, store, match) for match in matches], answers)
            self.assertEqual([answer_of(match=match, store=store, query=query) for match in matches], answers)
            self.assertEqual(view_of(query, store), tuple(sorted(set(answers))))
            self.assertEqual(view_of(store=store, query=query), tuple(sorted(set(answers))))
        self.assertTrue(many > 1000)

    def test_answers_that_are_shown_and_their_matches(self):
        some = random.Random(8)
        seen = []
        for query, rules, store in SAMPLES:
            groups = {}
            for match in matches_by_definition(query, store):
                groups.setdefault(answer_by_definition(query, store, match), []).append(match)
            others = [tuple([some.randrange(3) for _ in query[0]]) for _ in range(4)]
            for answer in list(groups)[:4] + others:
                seen.append(answer in groups)
                self.assertIs(is_shown(query, store, answer), seen[-1])
                self.assertEqual(matches_with(query, store, answer), groups.get(answer, []))
        self.assertTrue(min(seen.count(True), seen.count(False)) >= 100)

    def test_kinds_of_what_is_returned(self):
        for query, rules, store in SAMPLES[:100]:
            self.assertIs(type(matches_of(query, store)), tuple)
            self.assertIs(type(view_of(query, store)), tuple)
            for thing in matches_of(query, store) + view_of(query, store):
                self.assertIs(type(thing), tuple)
                self.assertTrue(all(type(number) is int for number in thing))


if __name__ == "__main__":
    unittest.main()
