"""Tests of viewstrike.rules: require_rules, closures, chains, parts, covering, headed."""

import copy
import functools
import itertools
import unittest

from tests.samples import KEY, LONG, LONG_RULES, ODD_VALUES, PATH, sample_pairs
from viewstrike.errors import InvalidRules
from viewstrike.queries import variables_of
from viewstrike.rules import (
    chain_for,
    closure_of,
    does_cover,
    is_headed,
    open_of,
    parts_of,
    require_rules,
    settled_of,
)

SAMPLES = sample_pairs(400)
EMPTY_HEAD = ((), ((0, 1), (1, 2), (3,)))
FULL_HEAD = ((0, 1, 2, 3), ((0, 1), (1, 2), (3,)))
ONE_ATOM = ((3,), ((3, 0, 6, 2),))
FIVE_FULL = ((0, 1, 2, 3, 4, 5, 6), LONG[1])
THREE_PARTS = ((1, 4), ((5, 4), (0, 1), (1, 4), (0, 2), (5, 1)))


def subsets(variables):
    return [told for many in range(len(variables) + 1) for told in itertools.combinations(variables, many)]


@functools.lru_cache(maxsize=None)
def least_closed_set(query, rules, some):
    """Return the closure by its definition: the intersection of all closed sets with some in them."""
    closed = [
        set(told)
        for told in subsets(variables_of(query))
        if set(some) <= set(told) and all(y in told for _, xs, y in rules if set(xs) <= set(told))
    ]
    return tuple(sorted(set.intersection(*closed)))


def classes_by_steps(query, open_variables):
    """Return the parts by their definition: the atoms that steps over open variables lead to."""
    numbers = range(len(query[1]))
    links = [set(atom) & set(open_variables) for atom in query[1]]
    found = {(t,) for t in numbers}
    for first in numbers:
        reached = {first}
        for _ in numbers:
            reached |= {t for t in numbers for s in reached if links[s] & links[t]}
        found = {told for told in found if not set(told) & reached} | {tuple(sorted(reached))}
    return tuple(sorted(found, key=min))


def covers_by_definition(query, rules, t, part):
    settled = set(least_closed_set(query, rules, query[0]))
    needed = settled & {variable for number in part for variable in query[1][number]}
    return needed <= set(least_closed_set(query, rules, query[1][t]))


class RequireRulesTest(unittest.TestCase):
    def check_index(self, query, value, index):
        before = copy.deepcopy(value)
        with self.assertRaises(InvalidRules) as caught:
            require_rules(query, value)
        self.assertIsInstance(caught.exception, ValueError)
        self.assertEqual((type(caught.exception.index), caught.exception.index), (type(index), index), value)
        self.assertEqual(value, before)

    def test_rules_come_back_as_they_are(self):
        for query, rules in (
            (PATH, ()),
            (PATH, KEY),
            (PATH, KEY * 6),
            (LONG, LONG_RULES),
            (LONG, ((3, (3, 4), 5), (3, (4, 5), 3), (3, (), 4))),
            (ONE_ATOM, ((0, (0, 2, 3), 6), (0, (), 3))),
            (((), ((6, 0),)), ((0, (6,), 0), (0, (0,), 6))),
        ):
            self.assertIs(require_rules(query, rules), rules)
            self.assertIs(require_rules(value=rules, query=query), rules)

    def test_sampled_rules_come_back(self):
        for query, rules in SAMPLES:
            self.assertIs(require_rules(query, rules), rules)

    def test_none_where_it_is_no_tuple(self):
        for value in (None, True, False, 0, 6, "", "012", [], [KEY[0]], {}, {0: KEY[0]}):
            self.check_index(PATH, value, None)

    def test_none_where_there_are_seven_rules(self):
        self.assertEqual(require_rules(PATH, KEY * 6), KEY * 6)
        self.check_index(PATH, KEY * 7, None)
        self.check_index(PATH, (None,) * 7, None)
        self.check_index(PATH, KEY * 1000000, None)

    def test_the_first_element_that_is_no_rule(self):
        for rule in ODD_VALUES + (
            0,
            (),
            (0, (0,)),
            (0, (0,), 2, 2),
            [0, (0,), 2],
            {0: 0, 1: (0,), 2: 2},
            ((0, (0,), 2),),
            "0 2",
        ):
            self.check_wrong_rule(PATH, rule)

    def test_the_number_of_the_atom(self):
        for t in (-1, 2, 3, 10**40, None, True, False, "0", (0,), [0], {}):
            self.check_wrong_rule(PATH, (t, (), 2))
        # With True in place of 1 and False in place of 0 these would be rules.
        self.check_wrong_rule(PATH, (True, (2,), 1))
        self.check_wrong_rule(PATH, (False, (0,), 2))

    def test_the_variables_that_determine(self):
        query = ((), ((4, 2, 0, 1), (2, 1)))
        for xs in (
            (2, 1),
            (4, 2),
            (1, 1),
            (1, 2, 2),
            (0,),
            (0, 1),
            (0, 2, 4),
            (3,),
            (5,),
            (-1,),
            (7,),
            (10**40,),
            None,
            True,
            1,
            "1",
            [],
            [1],
            {},
            {1: 1},
            (True,),
            (1, True),
            (False, 1),
            (None,),
            ("1",),
            ((1,),),
            ([1],),
            ({},),
        ):
            self.check_wrong_rule(query, (0, xs, 0))

    def test_a_variable_of_another_atom(self):
        self.check_wrong_rule(PATH, (0, (1,), 2))
        self.check_wrong_rule(PATH, (0, (0, 1), 2))
        self.check_wrong_rule(PATH, (0, (0,), 1))
        self.check_wrong_rule(PATH, (1, (), 0))

    def test_the_variable_that_is_determined(self):
        query = ((), ((1, 0, 2), (1, 3)))
        for y in (3, 4, 7, -1, 10**40, None, True, False, "1", (1,), [1], {}, [], ()):
            self.check_wrong_rule(query, (0, (2,), y))
            self.check_wrong_rule(query, (0, (), y))

    def test_xs_that_hold_y(self):
        self.check_wrong_rule(PATH, (0, (0,), 0))
        self.check_wrong_rule(PATH, (0, (0, 2), 2))
        self.check_wrong_rule(PATH, (0, (0, 2), 0))
        self.check_wrong_rule(((), ((6, 5, 4, 3),)), (0, (3, 4, 5, 6), 4))

    def check_wrong_rule(self, query, rule):
        right = (len(query[1]) - 1, (), query[1][-1][0])
        self.check_index(query, (rule,), 0)
        self.check_index(query, (right, rule), 1)
        self.check_index(query, (right, right, rule, right, rule), 2)
        self.check_index(query, (right,) * 5 + (rule,), 5)

    def test_long_and_deep_values(self):
        deep = ()
        for _ in range(97):
            deep = (deep,)
        self.check_index(PATH, (deep,), 0)
        self.check_wrong_rule(PATH, (deep, (0,), 2))
        self.check_wrong_rule(PATH, (0, deep, 2))
        self.check_wrong_rule(PATH, (0, (0,), deep))
        self.check_index(PATH, ((0, tuple(range(1000000)), 2),), 0)


class ClosureTest(unittest.TestCase):
    def test_example_of_the_interface(self):
        told = (
            parts_of(PATH, ()),
            is_headed(PATH, ()),
            parts_of(PATH, KEY),
            is_headed(PATH, KEY),
            closure_of(PATH, KEY, (0,)),
        )
        self.assertEqual(told, (((0, 1),), False, ((0,), (1,)), True, (0, 2)))

    def test_without_rules_it_is_the_variables_in_ascending_order(self):
        self.assertEqual(closure_of(LONG, (), (4, 0, 6)), (0, 4, 6))
        self.assertEqual(closure_of(LONG, (), ()), ())
        self.assertEqual(closure_of(ONE_ATOM, (), (6, 3, 2, 0)), (0, 2, 3, 6))

    def test_rules_that_need_others_before_them(self):
        self.assertEqual(closure_of(LONG, LONG_RULES, (6,)), (3, 4, 5, 6))
        self.assertEqual(closure_of(LONG, LONG_RULES, (5,)), (3, 4, 5))
        self.assertEqual(closure_of(LONG, LONG_RULES, (3,)), (3,))
        self.assertEqual(closure_of(LONG, LONG_RULES, (6, 0)), (0, 1, 3, 4, 5, 6))

    def test_a_rule_with_empty_xs_holds_for_no_variables(self):
        self.assertEqual(closure_of(PATH, ((1, (), 2),), ()), (2,))
        self.assertEqual(closure_of(PATH, ((1, (2,), 1), (0, (), 2)), ()), (1, 2))

    def test_a_rule_needs_all_of_its_xs(self):
        self.assertEqual(closure_of(ONE_ATOM, ((0, (0, 2), 6),), (0, 3)), (0, 3))
        self.assertEqual(closure_of(ONE_ATOM, ((0, (0, 2), 6),), (2, 0)), (0, 2, 6))

    def test_by_the_definition_in_any_order(self):
        for query, rules in SAMPLES:
            for some in subsets(variables_of(query)):
                closure = closure_of(query, rules, some)
                self.assertIs(type(closure), tuple)
                self.assertEqual(closure, least_closed_set(query, rules, some))
                self.assertEqual(closure_of(query, rules, some[::-1]), closure)
                self.assertEqual(closure_of(some=some, rules=rules, query=query), closure)


class ChainTest(unittest.TestCase):
    def check_chain(self, rules, some, wanted, chain):
        reached = set(some)
        for number in chain:
            self.assertTrue(set(rules[number][1]) <= reached)
            reached.add(rules[number][2])
        self.assertTrue(set(wanted) <= reached)
        self.assertEqual(len(set(chain)), len(chain))

    def test_a_chain_rule_by_rule(self):
        self.assertEqual(chain_for(PATH, KEY, (0,), (2,)), (0,))
        self.assertEqual(chain_for(LONG, LONG_RULES, (6,), (4,)), (1, 3, 2))
        self.assertEqual(chain_for(LONG, LONG_RULES, (5,), (3, 4)), (3, 2))

    def test_nothing_is_needed_for_what_is_there(self):
        self.assertEqual(chain_for(PATH, KEY, (), ()), ())
        self.assertEqual(chain_for(PATH, KEY, (2, 0), (0, 2)), ())
        self.assertEqual(chain_for(PATH, (), (1,), (1,)), ())

    def test_none_where_one_is_not_reached(self):
        self.assertIsNone(chain_for(PATH, KEY, (0,), (1,)))
        self.assertIsNone(chain_for(PATH, KEY, (0,), (2, 1)))
        self.assertIsNone(chain_for(PATH, KEY, (), (2,)))
        self.assertIsNone(chain_for(PATH, (), (0,), (2,)))

    def test_a_rule_that_is_there_twice_is_used_once(self):
        self.assertIn(chain_for(PATH, KEY * 6, (0,), (2,)), [(number,) for number in range(6)])

    def test_by_the_definition_in_any_order(self):
        for query, rules in SAMPLES[:120]:
            some_and_wanted = itertools.product(subsets(variables_of(query)[:5]), subsets(variables_of(query)[-4:]))
            for some, wanted in some_and_wanted:
                chain = chain_for(query, rules, some[::-1], wanted[::-1])
                if set(wanted) <= set(least_closed_set(query, rules, some)):
                    self.assertIs(type(chain), tuple)
                    self.check_chain(rules, some, wanted, chain)
                else:
                    self.assertIsNone(chain)

    def test_by_name(self):
        for query, rules in SAMPLES[:50]:
            wanted = variables_of(query)
            told = chain_for(wanted=wanted, some=query[0], rules=rules, query=query)
            self.assertEqual(told, chain_for(query, rules, query[0], wanted))


class SettledAndOpenTest(unittest.TestCase):
    def test_without_rules_the_head_is_settled(self):
        self.assertEqual((settled_of(PATH, ()), open_of(PATH, ())), ((0, 1), (2,)))
        self.assertEqual((settled_of(LONG, ()), open_of(LONG, ())), ((0, 6), (1, 2, 3, 4, 5)))

    def test_rules_settle_more(self):
        self.assertEqual((settled_of(PATH, KEY), open_of(PATH, KEY)), ((0, 1, 2), ()))
        self.assertEqual((settled_of(LONG, LONG_RULES), open_of(LONG, LONG_RULES)), ((0, 1, 3, 4, 5, 6), (2,)))

    def test_an_empty_head(self):
        self.assertEqual((settled_of(EMPTY_HEAD, ()), open_of(EMPTY_HEAD, ())), ((), (0, 1, 2, 3)))
        rules = ((1, (), 2),)
        self.assertEqual((settled_of(EMPTY_HEAD, rules), open_of(EMPTY_HEAD, rules)), ((2,), (0, 1, 3)))

    def test_a_head_of_all_variables(self):
        for query in (FULL_HEAD, FIVE_FULL):
            self.assertEqual((settled_of(query, ()), open_of(query, ())), (query[0], ()))

    def test_by_the_definition(self):
        for query, rules in SAMPLES:
            settled = least_closed_set(query, rules, query[0])
            self.assertEqual(settled_of(query, rules), settled)
            self.assertEqual(settled_of(rules=rules, query=query), settled)
            left = tuple(v for v in variables_of(query) if v not in settled)
            self.assertEqual(open_of(query, rules), left)
            self.assertEqual(open_of(rules=rules, query=query), left)


class PartsTest(unittest.TestCase):
    def test_an_open_variable_joins(self):
        self.assertEqual(parts_of(PATH, ()), ((0, 1),))
        self.assertEqual(parts_of(LONG, ()), ((0, 1, 2, 3, 4),))

    def test_a_settled_variable_does_not_join(self):
        self.assertEqual(parts_of(PATH, KEY), ((0,), (1,)))
        self.assertEqual(parts_of(LONG, LONG_RULES), ((0,), (1, 2), (3,), (4,)))
        self.assertEqual(parts_of(FIVE_FULL, ()), ((0,), (1,), (2,), (3,), (4,)))

    def test_an_empty_head(self):
        self.assertEqual(parts_of(EMPTY_HEAD, ()), ((0, 1), (2,)))
        self.assertEqual(parts_of(EMPTY_HEAD, ((0, (), 1),)), ((0,), (1,), (2,)))

    def test_one_atom_is_one_part(self):
        for head in ((), (3,), (0, 2, 3, 6)):
            self.assertEqual(parts_of((head, ONE_ATOM[1]), ()), ((0,),))

    def test_parts_that_interleave_are_ordered_by_their_first_atoms(self):
        self.assertEqual(parts_of(THREE_PARTS, ()), ((0, 4), (1, 3), (2,)))

    def test_an_atom_may_join_what_was_apart(self):
        query = ((), ((0,), (1,), (2, 3), (4,), (0, 1, 2)))
        self.assertEqual(parts_of(query, ()), ((0, 1, 2, 4), (3,)))

    def test_by_the_definition(self):
        for query, rules in SAMPLES:
            parts = classes_by_steps(query, open_of(query, rules))
            self.assertEqual(parts_of(query, rules), parts)
            self.assertEqual(parts_of(rules=rules, query=query), parts)


class CoverTest(unittest.TestCase):
    def test_an_atom_covers_what_its_closure_has(self):
        self.assertIs(does_cover(PATH, (), 0, (0, 1)), False)
        self.assertIs(does_cover(PATH, (), 1, (0, 1)), False)
        self.assertIs(does_cover(PATH, KEY, 0, (0,)), True)
        self.assertIs(does_cover(PATH, KEY, 0, (1,)), False)
        self.assertIs(does_cover(PATH, KEY, 1, (1,)), True)

    def test_an_atom_outside_of_the_part_may_cover_it(self):
        query = ((0, 1), ((0, 1), (0,), (1,)))
        self.assertIs(does_cover(query, (), 0, (2,)), True)
        self.assertIs(does_cover(query, (), 1, (2,)), False)

    def test_open_variables_need_not_be_covered(self):
        query = ((0,), ((0, 1), (1, 2)))
        self.assertIs(does_cover(query, (), 0, (0, 1)), True)
        self.assertIs(does_cover(query, (), 1, (0, 1)), False)

    def test_an_empty_head_is_covered_by_every_atom(self):
        for t in range(3):
            for part in ((0, 1), (2,)):
                self.assertIs(does_cover(EMPTY_HEAD, (), t, part), True)

    def test_variables_that_rules_settle_must_be_covered(self):
        query, rules = ((0,), ((0, 1), (0, 2), (1, 3), (3, 2))), ((0, (0,), 1),)
        self.assertEqual(parts_of(query, rules), ((0,), (1, 2, 3)))
        self.assertEqual([does_cover(query, rules, t, (1, 2, 3)) for t in range(4)], [True, True, False, False])
        self.assertEqual([does_cover(query, rules, t, (0,)) for t in range(4)], [True, True, False, False])

    def test_a_rule_without_xs_lets_every_atom_cover_its_y(self):
        query, rules = ((), ((0, 1), (1, 2))), ((0, (), 0),)
        self.assertEqual(parts_of(query, rules), ((0, 1),))
        self.assertIs(does_cover(query, rules, 1, (0, 1)), True)

    def test_by_the_definition(self):
        for query, rules in SAMPLES:
            for part in parts_of(query, rules):
                for t in range(len(query[1])):
                    told = covers_by_definition(query, rules, t, part)
                    self.assertIs(does_cover(query, rules, t, part), told)
                    self.assertIs(does_cover(part=part, t=t, rules=rules, query=query), told)


class HeadedTest(unittest.TestCase):
    def test_every_part_needs_an_atom(self):
        self.assertIs(is_headed(PATH, ()), False)
        self.assertIs(is_headed(PATH, KEY), True)
        self.assertIs(is_headed(LONG, ()), False)
        # The part of atoms 1 and 2 has the settled variables 1 and 3; no atom determines both.
        self.assertIs(is_headed(LONG, LONG_RULES), False)
        self.assertIs(is_headed(LONG, LONG_RULES + ((1, (2,), 1), (2, (2,), 3))), True)

    def test_different_atoms_may_cover_different_parts(self):
        query = ((0, 2), ((0, 1), (1,), (2, 3), (3,)))
        self.assertIs(is_headed(query, ()), True)

    def test_empty_and_full_heads_are_headed(self):
        for query in (EMPTY_HEAD, FULL_HEAD, FIVE_FULL, ONE_ATOM):
            self.assertIs(is_headed(query, ()), True)

    def test_by_the_definition(self):
        seen = []
        for query, rules in SAMPLES:
            parts = classes_by_steps(query, open_of(query, rules))
            atoms = range(len(query[1]))
            told = all(any(covers_by_definition(query, rules, t, part) for t in atoms) for part in parts)
            self.assertIs(is_headed(query, rules), told)
            self.assertIs(is_headed(rules=rules, query=query), told)
            seen.append(told)
        self.assertTrue(min(seen.count(True), seen.count(False)) >= 20)


class BeyondTest(unittest.TestCase):
    def test_somewhat_beyond_the_limits(self):
        query = ((8, 17), tuple([(k, k + 1) for k in range(8, 17)]))
        rules = tuple([(t, (t + 8,), t + 9) for t in range(9)])
        everything = tuple(range(8, 18))
        self.assertEqual(closure_of(query, rules, (9, 8)), everything)
        self.assertEqual(chain_for(query, rules, (8,), (17,)), tuple(range(9)))
        self.assertEqual((settled_of(query, rules), open_of(query, rules)), (everything, ()))
        self.assertEqual((settled_of(query, ()), open_of(query, ())), ((8, 17), everything[1:-1]))
        self.assertEqual(parts_of(query, rules), tuple([(t,) for t in range(9)]))
        self.assertEqual(parts_of(query, ()), (tuple(range(9)),))
        self.assertIs(does_cover(query, rules, 0, (8,)), True)
        self.assertEqual((is_headed(query, rules), is_headed(query, ())), (True, False))


if __name__ == "__main__":
    unittest.main()
