"""Tests of viewstrike.strikes: require_strike, without_rows, struck_by, takes_out, loss_of."""

import copy
import itertools
import random
import unittest

from tests.definitions import (
    all_rows,
    groups_by_definition,
    has_store_form,
    loss_by_definition,
    struck_by_definition,
    takes_out_by_definition,
)
from tests.samples import ODD_VALUES, PATH, sample_stores
from viewstrike.errors import InvalidStrike
from viewstrike.stores import matches_of, view_of
from viewstrike.strikes import loss_of, require_strike, struck_by, takes_out, without_rows

STORE = (((0, 0), (0, 1), (1, 0)), ((0, 0), (1, 0), (1, 1)))
EVERYTHING = ((0, 0), (0, 1), (0, 2), (1, 0), (1, 1), (1, 2))
SAMPLES = sample_stores(300)


def some_strikes(store, many):
    """Return some strikes of the store, the one of no rows and the one of all rows among them."""
    some = random.Random(str(store))
    rows = all_rows(store)
    strikes = [tuple(sorted(some.sample(rows, some.randint(0, len(rows))))) for _ in range(many)]
    return [(), tuple(rows)] + strikes


def some_wished(view):
    return [wished for many in (1, 2, 3) for wished in itertools.islice(itertools.combinations(view, many), 4)]


class RequireStrikeTest(unittest.TestCase):
    def check_index(self, value, index, store=STORE):
        before = copy.deepcopy(value)
        with self.assertRaises(InvalidStrike) as caught:
            require_strike(store, value)
        self.assertIsInstance(caught.exception, ValueError)
        self.assertEqual((type(caught.exception.index), caught.exception.index), (type(index), index), value)
        self.assertEqual(value, before)

    def test_strikes_come_back_as_they_are(self):
        for strike in ((), ((0, 0),), ((1, 2),), ((0, 2), (1, 0)), EVERYTHING):
            self.assertIs(require_strike(STORE, strike), strike)
            self.assertIs(require_strike(value=strike, store=STORE), strike)

    def test_sampled_strikes_come_back(self):
        for _, _, store in SAMPLES:
            for strike in some_strikes(store, 5):
                self.assertIs(require_strike(store, strike), strike)

    def test_none_where_it_is_no_tuple(self):
        for value in (None, True, 0, 1, "", "00", [], [(0, 0)], {}, {(0, 0): (0, 1)}):
            self.check_index(value, None)

    def test_the_first_element_that_is_no_pair_of_a_row(self):
        for pair in ODD_VALUES + (
            0,
            (),
            (0,),
            (0, 0, 0),
            [0, 0],
            {0: 0, 1: 0},
            "00",
            (-1, 0),
            (0, -1),
            (2, 0),
            (0, 3),
            (1, 3),
            (10**40, 0),
            (0, 10**40),
            (True, 0),
            (False, 0),
            (0, True),
            (1, False),
            (None, 0),
            (0, None),
            ("0", "0"),
            ((0,), 0),
            (0, (0,)),
            ([0], 0),
            (0, {}),
        ):
            self.check_index((pair,), 0)
            self.check_index(((0, 0), pair), 1)
            self.check_index(((0, 0), (0, 1), pair, (1, 0), pair), 2)

    def test_rows_of_tables_of_different_lengths(self):
        store = (((0, 0),), ((0, 0), (0, 1), (0, 2)))
        self.assertEqual(require_strike(store, ((0, 0), (1, 2))), ((0, 0), (1, 2)))
        self.check_index(((0, 1),), 0, store)
        self.check_index(((0, 0), (1, 3)), 1, store)
        self.check_index(((0, 0),), 0, ((), ((0, 0),)))

    def test_pairs_that_fall_or_stand_twice(self):
        self.check_index(((0, 0), (0, 0)), 1)
        self.check_index(((0, 1), (0, 0)), 1)
        self.check_index(((1, 0), (0, 2)), 1)
        self.check_index(((0, 0), (0, 2), (1, 1), (1, 1), (1, 0)), 3)
        self.check_index(EVERYTHING + ((1, 2),), 6)

    def test_the_first_wrong_element_comes_first(self):
        self.check_index(((0, 1), (0, 0), None), 1)
        self.check_index(((0, 1), None, (0, 0)), 1)

    def test_long_and_deep_values(self):
        deep = ()
        for _ in range(97):
            deep = (deep,)
        self.check_index((deep,), 0)
        self.check_index(((0, 0), (0, deep)), 1)
        self.check_index(((0, 0),) * 1000000, 1)
        self.check_index(((0,) * 1000000,), 0)


class WithoutRowsTest(unittest.TestCase):
    def test_example_of_the_interface(self):
        told = (
            struck_by(PATH, STORE, ((0, 0), (1, 1))),
            loss_of(PATH, STORE, ((0, 0), (0, 1)), ((0, 0),)),
            without_rows(STORE, ((0, 0),)),
        )
        self.assertEqual(told, (((0, 0),), 1, (((0, 1), (1, 0)), ((0, 0), (1, 0), (1, 1)))))

    def test_no_rows_and_all_rows(self):
        self.assertEqual(without_rows(STORE, ()), STORE)
        self.assertEqual(without_rows(STORE, EVERYTHING), ((), ()))
        self.assertEqual(without_rows(((), ()), ()), ((), ()))

    def test_rows_are_told_by_table_and_number(self):
        self.assertEqual(without_rows(STORE, ((1, 1),)), (STORE[0], ((0, 0), (1, 1))))
        self.assertEqual(without_rows(STORE, ((0, 2), (1, 0), (1, 2))), (((0, 0), (0, 1)), ((1, 0),)))

    def test_by_the_definition(self):
        for query, _, store in SAMPLES:
            for strike in some_strikes(store, 5):
                left = [[row for r, row in enumerate(table) if (t, r) not in strike] for t, table in enumerate(store)]
                told = without_rows(store, strike)
                self.assertEqual(told, tuple([tuple(table) for table in left]))
                self.assertEqual(without_rows(strike=strike, store=store), told)
                self.assertTrue(has_store_form(query, told))


class StruckTest(unittest.TestCase):
    def test_the_empty_strike(self):
        self.assertEqual(struck_by(PATH, STORE, ()), ())
        self.assertIs(takes_out(PATH, STORE, (), ((0, 0),)), False)
        self.assertEqual(loss_of(PATH, STORE, (), ((0, 0),)), 0)

    def test_all_rows(self):
        view = view_of(PATH, STORE)
        self.assertEqual(struck_by(PATH, STORE, EVERYTHING), view)
        self.assertIs(takes_out(PATH, STORE, EVERYTHING, view), True)
        self.assertEqual(loss_of(PATH, STORE, EVERYTHING, view), 0)
        self.assertEqual(loss_of(PATH, STORE, EVERYTHING, view[:1]), 2)

    def test_rows_in_no_match(self):
        store = (((0, 0), (5, 5)), ((0, 0), (6, 6)))
        self.assertEqual(struck_by(PATH, store, ((0, 1), (1, 1))), ())
        self.assertIs(takes_out(PATH, store, ((0, 1), (1, 1)), ((0, 0),)), False)
        self.assertEqual(loss_of(PATH, store, ((0, 1), (1, 1)), ((0, 0),)), 0)

    def test_each_match_must_have_a_struck_row(self):
        self.assertEqual(struck_by(PATH, STORE, ((0, 0),)), ())
        self.assertEqual(struck_by(PATH, STORE, ((0, 1),)), ((0, 1),))
        self.assertEqual(struck_by(PATH, STORE, ((0, 0), (0, 1))), ((0, 0), (0, 1)))
        self.assertIs(takes_out(PATH, STORE, ((0, 0), (0, 1)), ((0, 0),)), True)
        self.assertIs(takes_out(PATH, STORE, ((0, 0),), ((0, 0),)), False)

    def test_all_wished_answers_must_be_struck(self):
        self.assertIs(takes_out(PATH, STORE, ((0, 1),), ((0, 0), (0, 1))), False)
        self.assertIs(takes_out(PATH, STORE, ((0, 0), (0, 1)), ((0, 0), (0, 1))), True)

    def test_a_loss_leaves_out_the_wished_answers(self):
        strike = ((0, 0), (0, 1))
        self.assertEqual(loss_of(PATH, STORE, strike, ((0, 0),)), 1)
        self.assertEqual(loss_of(PATH, STORE, strike, ((0, 0), (0, 1))), 0)
        self.assertEqual(loss_of(PATH, STORE, strike, ((1, 0),)), 2)

    def test_the_loss_of_a_strike_that_does_not_take_them_out(self):
        self.assertEqual(loss_of(PATH, STORE, ((0, 1),), ((0, 0),)), 1)

    def test_an_empty_head(self):
        query = ((), PATH[1])
        self.assertEqual(struck_by(query, STORE, ((0, 0), (0, 1))), ())
        self.assertEqual(struck_by(query, STORE, EVERYTHING[:3]), ((),))
        self.assertEqual(loss_of(query, STORE, EVERYTHING, ((),)), 0)

    def test_by_the_definition(self):
        for query, _, store in SAMPLES:
            groups = groups_by_definition(query, store)
            for strike in some_strikes(store, 5):
                struck = struck_by(query, store, strike)
                self.assertIs(type(struck), tuple)
                self.assertEqual(struck, struck_by_definition(groups, strike))
                self.assertEqual(struck_by(strike=strike, store=store, query=query), struck)
                for wished in some_wished(tuple(groups)):
                    taken = takes_out(query, store, strike, wished)
                    self.assertIs(taken, takes_out_by_definition(groups, strike, wished))
                    self.assertIs(takes_out(wished=wished, strike=strike, store=store, query=query), taken)
                    loss = loss_of(query, store, strike, wished)
                    self.assertEqual((type(loss), loss), (int, loss_by_definition(groups, strike, wished)))
                    self.assertEqual(loss_of(wished=wished, strike=strike, store=store, query=query), loss)

    def test_the_struck_answers_are_those_that_the_view_lacks_afterwards(self):
        for query, _, store in SAMPLES:
            view = view_of(query, store)
            for strike in some_strikes(store, 5):
                left = view_of(query, without_rows(store, strike))
                self.assertTrue(set(left) <= set(view))
                told = struck_by(query, store, strike)
                self.assertEqual(told, tuple([answer for answer in view if answer not in left]))

    def test_a_strike_of_more_rows_strikes_no_fewer_answers(self):
        some = random.Random(5)
        for query, _, store in SAMPLES:
            for strike in some_strikes(store, 5):
                fewer = tuple(sorted(some.sample(strike, some.randint(0, len(strike)))))
                self.assertTrue(set(struck_by(query, store, fewer)) <= set(struck_by(query, store, strike)))

    def test_full_tables(self):
        query = ((0, 1, 2, 3, 4), ((0,), (1,), (2,), (3,), (4,)))
        store = (tuple([(k,) for k in range(12)]),) * 5
        self.assertEqual(len(matches_of(query, store)), 12**5)
        self.assertEqual(loss_of(query, store, ((2, 7),), ((0, 0, 7, 0, 0), (0, 0, 7, 0, 1))), 12**4 - 2)
        self.assertEqual(loss_of(((1,), query[1]), store, ((1, 7), (3, 0)), ((7,),)), 0)
        self.assertEqual(loss_of(((1,), query[1]), store, tuple([(3, k) for k in range(12)]), ((7,),)), 11)


if __name__ == "__main__":
    unittest.main()
