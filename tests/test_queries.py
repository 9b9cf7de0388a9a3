"""Tests of viewstrike.queries: require_query, variables_of."""

import copy
import unittest

from tests.samples import LONG, ODD_VALUES, PATH, sample_pairs
from viewstrike.errors import InvalidQuery
from viewstrike.queries import require_query, variables_of

ATOM = (0, 1)


def nested(levels):
    value = ()
    for _ in range(levels):
        value = (value,)
    return value


class RequireQueryTest(unittest.TestCase):
    def check_index(self, value, index):
        before = copy.deepcopy(value)
        with self.assertRaises(InvalidQuery) as caught:
            require_query(value)
        self.assertIsInstance(caught.exception, ValueError)
        self.assertEqual((type(caught.exception.index), caught.exception.index), (type(index), index), value)
        self.assertEqual(value, before)

    def test_queries_come_back_as_they_are(self):
        for query in (
            PATH,
            LONG,
            ((), ((0,),)),
            ((0,), ((0,),)),
            ((6,), ((6, 0, 3, 5),)),
            ((0, 1, 2, 3, 4, 5, 6), ((0, 1, 2, 3), (6, 5, 4))),
            ((), ((0, 1), (0, 1), (1, 0), (0, 1), (1,))),
            ((2,), ((3, 2, 1, 0),)),
        ):
            self.assertIs(require_query(query), query)
            self.assertIs(require_query(value=query), query)

    def test_sampled_queries_come_back(self):
        for query, _ in sample_pairs(300):
            self.assertIs(require_query(query), query)

    def test_none_where_it_is_no_pair(self):
        for value in ODD_VALUES + (0, -1, (), ((),), "ab", {0: (), 1: (ATOM,)}):
            self.check_index(value, None)
        self.check_index(((), (ATOM,), ()), None)
        self.check_index((ATOM, (ATOM,), None), None)
        self.check_index([(0,), (ATOM,)], None)

    def test_none_where_the_head_is_no_tuple(self):
        for head in (None, True, 0, "0", [], [0], {}, {0: 1}):
            self.check_index((head, (ATOM,)), None)

    def test_none_where_the_atoms_are_no_tuple(self):
        for atoms in (None, True, 0, "01", [], [ATOM], {}, {0: ATOM}):
            self.check_index(((), atoms), None)

    def test_none_where_there_are_no_or_too_many_atoms(self):
        self.check_index(((), ()), None)
        self.check_index(((), (ATOM,) * 6), None)
        self.check_index(((9,), (ATOM,) * 5 + (None,)), None)
        self.check_index(((), ((),) * 7), None)

    def test_five_atoms_are_not_too_many(self):
        self.assertEqual(require_query(((), (ATOM,) * 5)), ((), (ATOM,) * 5))

    def test_the_form_comes_before_the_atoms(self):
        self.check_index(([], (None,)), None)
        self.check_index((None, ((0, 0),)), None)

    def test_the_first_element_that_is_no_atom(self):
        for atom in ODD_VALUES + (
            0,
            (),
            [0],
            {0: 1},
            (0, 1, 2, 3, 4),
            (0, 0),
            (1, 2, 1),
            (-1,),
            (7,),
            (0, 7),
            (10**40,),
            (True,),
            (0, True),
            (False, 1),
            (1, True),
            (None,),
            ("0",),
            ([0],),
            ((0,),),
            (0, {}),
            "01",
        ):
            self.check_index(((0,), (atom, ATOM)), 0)
            self.check_index(((0,), (ATOM, atom)), 1)
            self.check_index(((0,), (ATOM, ATOM, atom, ATOM, atom)), 2)
            self.check_index(((0,), (ATOM, ATOM, ATOM, ATOM, atom)), 4)

    def test_the_variable_6_is_one_and_7_is_none(self):
        self.assertEqual(require_query(((6,), ((6,),))), ((6,), ((6,),)))
        self.check_index(((), ((7,),)), 0)

    def test_four_variables_are_an_atom_and_five_are_none(self):
        self.assertEqual(require_query(((), ((3, 2, 1, 0),))), ((), ((3, 2, 1, 0),)))
        self.check_index(((), ((4, 3, 2, 1, 0),)), 0)

    def test_the_atoms_come_before_the_head(self):
        self.check_index(((5, 5), (ATOM, (7,))), 1)
        self.check_index((("x",), (ATOM, ATOM, (0, 0))), 2)

    def test_minus_one_where_only_the_head_is_wrong(self):
        for head in (
            (1, 0),
            (0, 0),
            (0, 1, 1),
            (0, 0, 1),
            (2,),
            (0, 2),
            (-1,),
            (6,),
            (7,),
            (10**40,),
            (True,),
            (False,),
            (0, True),
            (False, 1),
            (None,),
            ("0",),
            ([],),
            ([0],),
            ({},),
            ((0,),),
            (0, None),
            (0, "1"),
        ):
            self.check_index((head, (ATOM,)), -1)
            self.check_index((head, (ATOM, (1,), (1, 0))), -1)

    def test_a_boolean_in_the_head_is_not_the_variable_that_equals_it(self):
        self.check_index(((True,), ((1,),)), -1)
        self.check_index(((False,), ((0,),)), -1)

    def test_long_and_deep_values(self):
        self.check_index((tuple(range(1000000)), (ATOM,)), -1)
        self.check_index(((), (tuple(range(1000000)),)), 0)
        self.check_index(((), (ATOM,) * 1000000), None)
        self.check_index((nested(98), (ATOM,)), -1)
        self.check_index(((), (nested(98),)), 0)
        self.check_index(nested(100), None)


class VariablesOfTest(unittest.TestCase):
    def test_example_of_the_interface(self):
        self.assertEqual(variables_of(((0, 1), ((0, 2), (2, 1)))), (0, 1, 2))

    def test_each_variable_once_in_ascending_order(self):
        self.assertEqual(variables_of(((), ((6, 4), (4, 0), (0,)))), (0, 4, 6))
        self.assertEqual(variables_of(((), ((3,),))), (3,))
        self.assertEqual(variables_of(query=LONG), (0, 1, 2, 3, 4, 5, 6))

    def test_variables_outside_of_the_head_count(self):
        self.assertEqual(variables_of(((), ((5, 1), (3, 1)))), (1, 3, 5))

    def test_somewhat_beyond_the_limits(self):
        self.assertEqual(variables_of(((), ((9, 2, 10, 17, 8),) + ((1,),) * 6)), (1, 2, 8, 9, 10, 17))

    def test_all_variables_of_sampled_queries(self):
        for query, _ in sample_pairs(300):
            variables = variables_of(query)
            self.assertIs(type(variables), tuple)
            self.assertEqual(variables, tuple(v for v in range(7) if any(v in atom for atom in query[1])))


if __name__ == "__main__":
    unittest.main()
