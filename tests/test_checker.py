"""Tests of viewstrike.checker: first_fault, each fault of the table of papers by itself, and the forms of papers."""

import copy
import unittest

from tests.claimsamples import BROKEN, CROSS, SHARED, SHOWN, SQUARE
from tests.samples import KEY, LONG, LONG_RULES, PATH, grid
from viewstrike.checker import first_fault
from viewstrike.claims import decide
from viewstrike.partings import parting_for, parting_for_table

NO_PAPERS = (
    None, True, False, 0, 1, -1, "", "hit", "more", [], {}, [()], {0: 1}, ("x",), ((), (), (), ()), (None,), (1.5,)
)
CHAIN_RULES = ((0, (0,), 2), (1, (2,), 1), (0, (), 0), (1, (1,), 2))
TWO_PARTS = ((0, 1, 3), ((0, 2), (2,), (1, 3)))
ONE_COLUMN = grid((3, 2), (0, 1))


def long_tree(store, levels):
    """Return a tree with so many matches on one path, all of them the first one, and with () elsewhere."""
    tree = ()
    for _ in range(levels):
        tree = ((0,) * len(store), (tree,) + ((),) * (len(store) - 1))
    return tree


class CheckerTest(unittest.TestCase):
    def check(self, verdict, claim, paper, fault):
        before = copy.deepcopy(paper)
        told = first_fault((verdict, claim, paper))
        self.assertEqual(told, fault, (verdict, claim, paper))
        self.assertEqual(str(told), str(fault))
        self.assertEqual(paper, before)

    def check_papers(self, verdict, claim, papers):
        for paper in papers:
            self.check(verdict, claim, paper, ("paper",))


class FormTest(CheckerTest):
    def test_what_is_no_triple(self):
        right = decide(SHOWN[0])
        for value in (
            None, True, 0, "", "abc", [], list(right), {}, {0: 1, 1: 2, 2: 3}, (), right[:2], right + (None,)
        ):
            self.assertEqual(first_fault(value), ("form",))
        self.assertEqual(first_fault((0,) * 1000000), ("form",))
        self.assertEqual(first_fault(certificate=right), None)

    def test_a_claim_that_is_not_valid(self):
        for claim in (
            None, True, 0, "", [], {}, (), ("headed",), list(SHOWN[4]), SHOWN[4] + (0,), ("headed", PATH, None)
        ):
            for verdict in ("shown", "broken", None, "x"):
                for paper in (None, (), [], 0):
                    self.check(verdict, claim, paper, ("claim",))

    def test_the_verdict(self):
        for claim in SHOWN + BROKEN:
            _, _, paper = decide(claim)
            for verdict in (
                None, True, False, 0, 1, "", "Shown", "shown ", "true", [], ["shown"], ("shown",), {}, b"shown"
            ):
                self.check(verdict, claim, paper, ("paper",))

    def test_papers_of_other_shapes(self):
        for claim in SHOWN + BROKEN:
            for verdict in ("shown", "broken"):
                self.check_papers(verdict, claim, NO_PAPERS)

    def test_parts_too_many_or_too_few(self):
        for claim in SHOWN + BROKEN:
            verdict, _, paper = decide(claim)
            if (claim[0], verdict) in (
                ("headed", "shown"), ("headed", "broken"), ("table", "shown"), ("table", "broken")
            ):
                self.check_papers(verdict, claim, [paper[:-1], paper + paper[-1:], (), list(paper)])
            elif claim[0] in ("free", "goes") or (claim[0], verdict) in (("least", "broken"), ("stay", "broken")):
                self.check_papers(verdict, claim, [paper[:-1], paper + paper[-1:], (), list(paper)])

    def test_a_right_certificate_with_its_second_part_exchanged(self):
        for claim in SHOWN:
            verdict, _, paper = decide(claim)
            self.check(verdict, claim, paper, None)
            self.check(verdict, None, paper, ("claim",))


class SettlesTest(CheckerTest):
    shown = ("settles", PATH, CHAIN_RULES, (0,), 1)
    broken = ("settles", PATH, CHAIN_RULES, (2,), 0)

    def test_a_rule_that_does_not_fit(self):
        self.check("shown", self.shown, (0, 1), None)
        self.check("shown", self.shown, (2, 0, 0, 1, 1, 3), None)
        self.check("shown", self.shown, (1, 0), ("rule", 0))
        self.check("shown", self.shown, (0, 0, 3, 1), ("rule", 2))
        self.check("shown", ("settles", PATH, CHAIN_RULES, (), 1), (0, 2, 1), ("rule", 0))
        self.check("shown", ("settles", PATH, CHAIN_RULES, (), 1), (2, 0, 1), None)

    def test_a_chain_that_does_not_reach_y(self):
        self.check("shown", self.shown, (), ("end",))
        self.check("shown", self.shown, (0,), ("end",))
        self.check("shown", self.shown, (0, 2), ("end",))
        self.check("shown", ("settles", PATH, (), (1,), 1), (), None)

    def test_a_rule_that_does_not_fit_comes_first(self):
        self.check("shown", self.shown, (3,), ("rule", 0))
        self.check("shown", self.shown, (0, 3), ("rule", 1))

    def test_forms_of_chains(self):
        self.check("shown", self.shown, (0,) * 19 + (1,), None)
        wrong = [
            (0,) * 20 + (1,), [0, 1], (4,), (0, 4), (-1,), (True,), (0, True), (False, 1), (None,), ("0",), ((0,),),
            (0, []),
        ]
        self.check_papers("shown", self.shown, wrong)
        self.check_papers("shown", ("settles", PATH, (), (0,), 0), [(0,)])

    def test_some_that_hold_y_or_not_all_xs(self):
        claim = ("settles", PATH, KEY, (1,), 2)
        self.check("broken", claim, (1,), None)
        self.check("broken", claim, (), ("set",))
        self.check("broken", claim, (0,), ("set",))
        self.check("broken", claim, (1, 2), ("set",))
        self.check("broken", claim, (0, 1, 2), ("set",))

    def test_some_that_are_not_closed(self):
        claim = ("settles", PATH, KEY, (1,), 2)
        self.check("broken", claim, (0, 1), ("rule", 0))
        rules = ((0, (2,), 0), (1, (1,), 2), (0, (0,), 2))
        self.check("broken", ("settles", PATH, rules, (0,), 1), (0,), ("rule", 2))
        self.check("broken", ("settles", PATH, rules, (0,), 1), (0, 2), None)
        self.check("broken", ("settles", PATH, rules, (1,), 0), (1, 2), ("rule", 0))
        self.check("broken", ("settles", PATH, rules, (1,), 0), (1,), ("rule", 1))
        self.check("broken", ("settles", PATH, ((0, (), 2),), (1,), 0), (1,), ("rule", 0))

    def test_the_set_comes_before_the_rules(self):
        self.check("broken", ("settles", PATH, KEY, (0,), 2), (), ("set",))
        self.check("broken", ("settles", PATH, KEY, (1,), 2), (0,), ("set",))

    def test_forms_of_some(self):
        wrong = [
            [1], (1, 0), (1, 1), (3,), (-1,), (0, 3), (True,), (0, True), (False, 1), ("1",), ((1,),), (None,), {1: 1}
        ]
        self.check_papers("broken", ("settles", PATH, KEY, (1,), 2), wrong)
        self.check_papers("broken", ("settles", ((), ((0, 6),)), (), (0,), 6), [(0, 1), (1,), (0, 5)])


class JoinedTest(CheckerTest):
    claim = ("joined", LONG, (), 1, 3)

    def test_where_the_path_begins_and_ends(self):
        self.check("shown", self.claim, (1, 2, 3), None)
        self.check("shown", self.claim, (1, 0, 1, 1, 2, 3, 4, 3), None)
        self.check("shown", self.claim, (2, 3), ("end",))
        self.check("shown", self.claim, (1, 2), ("end",))
        self.check("shown", self.claim, (3, 2, 1), ("end",))
        self.check("shown", self.claim, (1,), ("end",))
        self.check("shown", ("joined", LONG, (), 2, 2), (2,), None)

    def test_steps(self):
        self.check("shown", self.claim, (1, 3), ("step", 1))
        self.check("shown", self.claim, (1, 2, 1, 4, 3), ("step", 3))
        self.check("shown", self.claim, (1, 0, 2, 4, 3), ("step", 2))
        self.check("shown", ("joined", LONG, LONG_RULES, 1, 3), (1, 2, 3), ("step", 2))
        self.check("shown", ("joined", PATH, KEY, 0, 0), (0,), None)
        self.check("shown", ("joined", PATH, KEY, 0, 0), (0, 0), ("step", 1))

    def test_a_settled_variable_in_common_is_no_step(self):
        self.check("shown", ("joined", ((0,), ((0, 1), (0, 2))), (), 0, 1), (0, 1), ("step", 1))

    def test_the_ends_come_before_the_steps(self):
        self.check("shown", self.claim, (1, 4), ("end",))
        self.check("shown", self.claim, (0, 4, 3), ("end",))

    def test_forms_of_paths(self):
        self.check("shown", self.claim, (1,) * 18 + (2, 3), None)
        wrong = [
            (1,) * 19 + (2, 3), (), [1, 2, 3], (1, 5, 3), (1, -1, 3), (True, 2, 3), (1, None, 3), ("1", 2, 3),
            ((1, 2, 3),),
        ]
        self.check_papers("shown", self.claim, wrong)

    def test_some_atoms_with_s_and_not_t(self):
        claim = ("joined", LONG, LONG_RULES, 1, 3)
        self.check("broken", claim, (1, 2), None)
        self.check("broken", claim, (0, 1, 2, 4), None)
        self.check("broken", claim, (), ("set",))
        self.check("broken", claim, (2,), ("set",))
        self.check("broken", claim, (1, 2, 3), ("set",))
        self.check("broken", claim, (0, 1, 2, 3, 4), ("set",))
        self.check("broken", ("joined", LONG, (), 2, 2), (2,), ("set",))

    def test_a_variable_on_both_sides(self):
        self.check("broken", ("joined", LONG, LONG_RULES, 1, 3), (1,), ("variable", 2))
        self.check("broken", self.claim, (1, 2), ("variable", 1))
        self.check("broken", self.claim, (0, 1), ("variable", 2))
        self.check("broken", self.claim, (0, 1, 2, 4), ("variable", 3))
        self.check("broken", self.claim, (1,), ("variable", 1))
        self.check("broken", ("joined", ((), ((5, 3), (3, 5))), (), 0, 1), (0,), ("variable", 3))

    def test_a_variable_on_one_side_alone(self):
        query = ((), ((4, 3), (3,), (2,), (2, 1)))
        self.check("broken", ("joined", query, (), 0, 3), (0, 1), None)
        self.check("broken", ("joined", query, (), 3, 0), (2, 3), None)
        self.check("broken", ("joined", query, (), 3, 0), (1, 2, 3), ("variable", 3))
        self.check("broken", ("joined", query, (), 3, 0), (1, 3), ("variable", 2))

    def test_the_set_comes_before_the_variables(self):
        self.check("broken", self.claim, (2,), ("set",))

    def test_forms_of_some_atoms(self):
        claim = ("joined", LONG, LONG_RULES, 1, 3)
        self.check_papers(
            "broken", claim, [[1, 2], (2, 1), (1, 1, 2), (1, 5), (-1, 1), (True, 2), (1, None), ("1",), ((1, 2),)]
        )


class PartsTest(CheckerTest):
    rules = ((0, (0,), 2), (1, (2,), 1))
    query = ((0, 1), ((0, 2), (2, 1)))

    def test_pairs(self):
        claim = ("headed", self.query, self.rules)
        self.check("shown", claim, ((0, ()), (1, ())), None)
        self.check("shown", claim, ((0, (0, 0)), (0, (0, 1))), None)
        self.check("shown", claim, ((1, ()), (1, ())), ("part", 0))
        self.check("shown", claim, ((1, (0,)), (1, ())), ("part", 0))
        self.check("shown", claim, ((0, ()), (0, ())), ("part", 1))
        self.check("shown", claim, ((0, ()), (0, (0,))), ("part", 1))
        self.check("shown", claim, ((1, ()), (0, ())), ("part", 0))

    def test_a_chain_that_reaches_enough_but_is_none(self):
        claim = ("headed", PATH, ((0, (2,), 0), (1, (1,), 2)))
        self.check("shown", claim, ((0, ()), (1, ())), None)
        self.check("shown", claim, ((1, (0,)), (1, ())), None)
        rules = ((0, (0,), 2), (1, (1,), 2), (0, (2,), 0))
        self.check("shown", ("headed", PATH, rules), ((1, (0, 2)), (1, ())), ("part", 0))
        self.check("shown", ("headed", PATH, rules), ((1, (2, 0)), (1, ())), None)

    def test_forms_of_pairs(self):
        claim = ("headed", self.query, self.rules)
        pair = (1, ())
        for wrong in (
            None, 0, (), (0,), (0, (), ()), [0, ()], (0, []), (True, ()), (2, ()), (-1, ()), (0, (2,)), (0, 0),
            (0, (0,) * 21),
        ):
            self.check_papers("shown", claim, [(wrong, pair), ((0, ()), wrong)])
        self.check_papers("shown", claim, [(), (pair,), ((0, ()), pair, pair), [(0, ()), pair], ((0, ()), (1, (0.0,)))])
        self.check("shown", claim, ((0, (0,) * 20), pair), None)

    def test_chains_of_a_table(self):
        claim = ("table", self.query, self.rules, 0)
        self.check("shown", claim, ((), (1,)), None)
        self.check("shown", claim, ((0, 1), (0, 1)), None)
        self.check("shown", claim, ((), ()), ("part", 1))
        self.check("shown", claim, ((), (0,)), ("part", 1))
        self.check("shown", ("table", self.query, self.rules, 1), ((), ()), ("part", 0))
        self.check("shown", ("table", self.query, self.rules, 1), ((0,), ()), ("part", 0))
        self.check("shown", ("table", TWO_PARTS, (), 2), ((), ()), ("part", 0))
        self.check_papers(
            "shown", claim, [(), ((),), ((), (), (1,)), [(), (1,)], ((), [1]), ((), (2,)), ((), 1), ((), (True,))]
        )
        self.check_papers("shown", claim, [((), (1,) * 21), ((0, ()), (0, (1,)))])
        self.check("shown", claim, ((), (1,) * 20), None)

    def test_free(self):
        claim = ("free", self.query, self.rules)
        self.check("shown", claim, (0, (1,)), None)
        self.check("shown", claim, (0, ()), ("end",))
        self.check("shown", claim, (0, (0,)), ("end",))
        self.check("shown", claim, (1, ()), ("end",))
        self.check("shown", claim, (1, (0,)), ("rule", 0))
        self.check("shown", claim, (1, (1, 1, 0)), ("rule", 2))
        wrong = [
            (), (0,), (0, (1,), ()), [0, (1,)], (2, (1,)), (-1, ()), (True, (1,)), (False, (1,)), (0, [1]), (0, (2,)),
            (0, (1,) * 21),
        ]
        self.check_papers("shown", claim, wrong)
        self.check("shown", claim, (0, (1,) * 20), None)


class PartingPaperTest(CheckerTest):
    store = (((0, 0), (0, 1), (3, 0)), ((0, 0), (1, 0), (1, 7), (2, 5)))
    strike = ((0, 0), (1, 1))

    def setUp(self):
        self.claims = (("headed", PATH, ()), ("table", PATH, (), 1))

    def test_right_ones(self):
        for claim, parting in zip(self.claims, (parting_for(PATH, ()), parting_for_table(PATH, (), 1))):
            self.check("broken", claim, parting, None)
        self.check("broken", ("table", PATH, (), 0), parting_for(PATH, ()), None)
        self.check("broken", self.claims[0], (self.store, (0, 0), self.strike), None)

    def test_a_store_that_breaks_a_rule(self):
        for kind in (("headed", PATH, KEY), ("table", PATH, KEY, 0), ("free", PATH, KEY)):
            last = () if kind[0] == "free" else self.strike
            self.check("broken", kind, (self.store, (0, 0), last), ("store",))
            self.check("broken", kind, (self.store, (9, 9), last), ("store",))

    def test_an_answer_outside_of_the_view(self):
        for claim in self.claims + (("free", PATH, ()),):
            self.check("broken", claim, (self.store, (9, 9), ()), ("answer",))
            self.check("broken", claim, (((), ()), (0, 0), ()), ("answer",))

    def test_a_strike_that_does_not_take_it_out(self):
        for claim in self.claims:
            self.check("broken", claim, (self.store, (0, 0), ()), ("strike",))
            self.check("broken", claim, (self.store, (0, 0), ((0, 0),)), ("strike",))

    def test_a_loss_that_is_not_smaller(self):
        self.check("broken", self.claims[0], (self.store, (0, 0), ((0, 0), (0, 1))), ("table", 0))
        self.check("broken", self.claims[1], (self.store, (0, 0), ((0, 0), (0, 1))), ("table", 1))
        self.check("broken", self.claims[1], (self.store, (0, 0), self.strike), None)
        self.check("broken", self.claims[0], (self.store, (0, 7), ((1, 0),)), ("strike",))
        self.check("broken", self.claims[0], (self.store, (0, 7), ((1, 2),)), ("table", 0))

    def test_the_first_table_that_does_as_well(self):
        query = ((0, 1), ((2,), (0, 2), (2, 1)))
        store = (((0,), (1,)), self.store[0], self.store[1])
        self.check("broken", ("headed", query, ()), (store, (0, 0), ((0, 0), (0, 1))), ("table", 0))
        self.check("broken", ("headed", query, ()), (store, (0, 0), ((1, 0), (2, 1))), None)
        self.check("broken", ("table", query, (), 2), (store, (0, 0), ((0, 0), (0, 1))), ("table", 2))
        store = (((0, 0), (0, 1)), ((0, 0), (1, 0)))
        self.check("broken", self.claims[0], (store, (0, 0), ((0, 0), (1, 1))), ("table", 0))
        store = (((0, 0), (0, 1), (1, 1)), ((0, 0), (1, 0)))
        self.check("broken", self.claims[0], (store, (0, 0), ((0, 0), (1, 1))), ("table", 0))
        store = (((0, 0), (0, 1)), ((0, 0), (0, 5), (1, 0), (1, 5)))
        self.check("broken", self.claims[0], (store, (0, 0), ((0, 0), (1, 2))), ("table", 1))
        self.check("broken", ("table", PATH, (), 0), (store, (0, 0), ((0, 0), (1, 2))), None)
        self.check("broken", ("table", PATH, (), 1), (store, (0, 0), ((0, 0), (1, 2))), ("table", 1))

    def test_forms(self):
        right = (self.store, (0, 0), self.strike)
        wrong_stores = (
            None, (), list(self.store), self.store[:1], (self.store[0], ()) + ((),), (((0, 1), (0, 0)), ()),
            (((0,),), ()),
        )
        wrong_stores += (
            tuple([tuple([(k, 0) for k in range(13)])] * 2), (((0, 1000),), ()), (((0, True),), ()), ([], ())
        )
        wrong_answers = (None, (), (0,), (0, 0, 0), [0, 0], (0, -1), (0, 1000), (0, False), (0, None), "00", ((0, 0),))
        wrong_strikes = (
            None, [], [(0, 0)], ((0, 3),), ((1, 4),), ((2, 0),), ((0, -1),), ((1, 0), (0, 1)), ((0, 0), (0, 0)), (0, 0)
        )
        wrong_strikes += (((True, 0),), ((0, False),), ((0,),), ((0, 0, 0),), ([0, 0],), "x")
        for claim in self.claims:
            self.check("broken", claim, right, None)
            self.check_papers("broken", claim, [(store,) + right[1:] for store in wrong_stores])
            self.check_papers("broken", claim, [(right[0], answer, right[2]) for answer in wrong_answers])
            self.check_papers("broken", claim, [right[:2] + (strike,) for strike in wrong_strikes])
            self.check_papers("broken", claim, [right[:2], right + ((),), list(right), (), right[::-1]])
        free = (self.store, (0, 0), ())
        self.check_papers("broken", ("free", PATH, ()), [(store,) + free[1:] for store in wrong_stores])
        self.check_papers("broken", ("free", PATH, ()), [(free[0], answer, free[2]) for answer in wrong_answers])
        self.check_papers("broken", ("free", PATH, ()), [free[:2], free + ((),), list(free), free[:2] + (None,)])

    def test_a_strike_of_rows_that_only_another_store_has(self):
        self.check("broken", self.claims[0], ((self.store[0][:1], self.store[1]), (0, 0), ((0, 0),)), ("table", 0))
        self.check_papers("broken", self.claims[0], [((self.store[0][:1], self.store[1]), (0, 0), ((0, 1), (1, 0)))])

    def test_large_stores(self):
        query, store = grid((12,) * 5, (0, 1, 2, 3, 4))
        answer = (0,) * 5
        self.check("broken", ("headed", query, ()), (store, answer, ((0, 0), (1, 1))), ("table", 0))
        self.check("broken", ("table", query, (), 4), (store, answer, ((3, 0),)), ("table", 4))
        self.check("broken", ("free", query, ()), (store, answer, (answer, ((),) * 5)), None)
        self.check("broken", ("free", query, ()), (store, answer, ((1,) * 5, ((),) * 5)), ("tree", ()))


class TreeTest(CheckerTest):
    """Strike trees, by the claims about free queries and least losses."""

    claim = ("least", CROSS, SQUARE, ((0, 0),), (), 1)
    tree = ((0, 0), ((), ()))

    def test_free(self):
        claim = ("free", CROSS, ())
        self.check("broken", claim, (SQUARE, (0, 0), self.tree), None)
        self.check("broken", claim, (SQUARE, (1, 1), ((1, 1), ((), ()))), None)
        self.check("broken", claim, (SQUARE, (0, 0), ()), ("tree", ()))
        self.check("broken", claim, (SQUARE, (1, 1), self.tree), ("tree", ()))
        self.check("broken", claim, ((((0,),), ((0,), (1,))), (0, 0), self.tree), ("tree", (1,)))
        self.check("broken", claim, ((((0,), (1,)), ((0,),)), (0, 0), self.tree), ("tree", (0,)))
        self.check("broken", claim, ((((0,),), ((0,),)), (0, 0), self.tree), ("tree", (0,)))

    def test_least_shown(self):
        self.check("shown", self.claim, (((0, 0),), self.tree), None)
        self.check("shown", self.claim, (((1, 0),), self.tree), None)
        self.check("shown", self.claim, ((), self.tree), ("strike",))
        self.check("shown", self.claim, (((0, 1), (1, 1)), self.tree), ("strike",))
        self.check("shown", self.claim, (((0, 0), (1, 0)), self.tree), ("loss",))
        self.check("shown", self.claim, (((0, 0),), ()), ("tree", ()))
        self.check("shown", ("least", CROSS, SQUARE, ((0, 0),), (), 0), (((0, 0),), ()), ("loss",))
        self.check("shown", ("least", CROSS, SQUARE, ((0, 0),), (), 2), (((0, 0), (1, 0)), self.tree), ("tree", (0,)))

    def test_least_shown_beside_kept_answers(self):
        claim = ("least", CROSS, SQUARE, ((0, 0),), ((0, 1), (1, 1)), 1)
        self.check("shown", claim, (((1, 0),), self.tree), None)
        self.check("shown", claim, (((0, 0),), self.tree), ("kept", 0))
        self.check("shown", claim, (((0, 0), (1, 1)), ()), ("kept", 0))
        self.check("shown", claim, (((0, 0), (0, 1)), ()), ("kept", 0))
        self.check("shown", claim, (((1, 0), (1, 1)), ()), ("kept", 0))
        claim = claim[:4] + (((0, 1), (1, 0)), 1)
        self.check("shown", claim, (((1, 0),), ()), ("kept", 1))
        self.check("shown", claim, (((0, 0),), ()), ("kept", 0))
        self.check("shown", claim, (((1, 1),), ()), ("strike",))

    def test_faults_of_least_follow_each_other(self):
        claim = ("least", CROSS, SQUARE, ((0, 0),), ((0, 1),), 1)
        self.check("shown", claim, (((0, 1),), ()), ("strike",))
        self.check("shown", claim, (((0, 0), (1, 0)), ()), ("kept", 0))
        query, store = grid((3, 2), (0, 1))
        claim = ("least", query, store, ((0, 0),), ((0, 1),), 1)
        self.check("shown", claim, (((1, 0),), ()), ("loss",))
        self.check("shown", claim[:5] + (2,), (((1, 0),), ()), ("tree", ()))
        self.check("shown", claim[:5] + (2,), (((1, 0),), self.tree), None)

    def test_least_shown_for_none(self):
        claim = ("least", CROSS, SQUARE, ((0, 0),), ((0, 1), (1, 0)), None)
        self.check("shown", claim, self.tree, None)
        self.check("shown", claim, (), ("tree", ()))
        self.check("shown", claim[:4] + (((0, 1),), None), self.tree, ("tree", (1,)))
        self.check("shown", claim[:4] + (((1, 0),), None), self.tree, ("tree", (0,)))
        self.check("shown", claim[:4] + ((), None), self.tree, ("tree", (0,)))
        self.check_papers("shown", claim, [(((0, 0),), self.tree), ((), self.tree)])
        self.check_papers("shown", claim[:5] + (1,), [self.tree, ()])

    def test_least_broken_by_a_strike(self):
        claim = ("least", CROSS, SQUARE, ((0, 0),), (), 2)
        self.check("broken", claim, ("fewer", ((0, 0),)), None)
        self.check("broken", claim, ("fewer", ((0, 1),)), ("strike",))
        self.check("broken", claim, ("fewer", ((0, 0), (1, 0))), ("loss",))
        self.check("broken", claim[:5] + (1,), ("fewer", ((0, 0),)), ("loss",))
        self.check("broken", claim[:5] + (None,), ("fewer", ((0, 0), (1, 0))), None)
        self.check("broken", claim[:5] + (None,), ("fewer", ()), ("strike",))
        kept = claim[:4] + (((0, 1), (1, 0)),)
        self.check("broken", kept + (2,), ("fewer", ((1, 0),)), ("kept", 1))
        self.check("broken", kept + (None,), ("fewer", ((0, 0),)), ("kept", 0))
        self.check("broken", kept + (0,), ("fewer", ((0, 0), (1, 0))), ("kept", 0))

    def test_least_broken_by_a_tree(self):
        claim = ("least", CROSS, SQUARE, ((0, 0),), (), 0)
        self.check("broken", claim, ("more", self.tree), None)
        self.check("broken", claim, ("more", ()), ("tree", ()))
        self.check("broken", claim[:5] + (1,), ("more", self.tree), ("tree", (0,)))
        self.check("broken", claim[:4] + (((0, 1), (1, 0)), 200), ("more", self.tree), None)
        self.check_papers("broken", claim[:5] + (None,), [("more", self.tree), ("more", ())])
        self.check_papers("broken", claim[:4] + (((0, 1), (1, 0)), None), [("more", self.tree)])

    def test_forms_of_least_broken(self):
        claim = ("least", CROSS, SQUARE, ((0, 0),), (), 1)
        wrong = [
            (), ("fewer",), ("more",), ("fewer", ((0, 0),), ()), ["fewer", ((0, 0),)], ("less", ((0, 0),)), (None, ()),
            (0, ()),
        ]
        wrong += [
            ("fewer", self.tree), ("fewer", [(0, 0)]), ("fewer", ((0, 2),)), ("fewer", None), ("more", ((0, 0),)),
            ("more", None),
        ]
        wrong += [
            ("more", []), (("more",), ()), (["more"], ()), (b"more", ()), ("none",), ("fewer", ((1, 0), (0, 0))),
            (True, ()),
        ]
        self.check_papers("broken", claim, wrong)

    def test_an_end_needs_a_loss_or_a_kept_answer(self):
        query, store = grid((3, 2), (0, 1))
        claim = ("least", query, store, ((0, 0),), ((1, 0),), 0)
        self.check("broken", claim, ("more", self.tree), None)
        self.check("broken", claim[:5] + (1,), ("more", self.tree), ("tree", (0,)))
        # The place where both rows are struck ends, for a kept answer is struck; the one before it does not.
        self.check("broken", claim[:4] + (((0, 1),), 2), ("more", self.tree), ("tree", (1,)))
        self.check("broken", claim[:4] + (((0, 1), (1, 0)), 5), ("more", self.tree), None)

    def test_a_match_of_no_wished_answer(self):
        self.check("shown", self.claim, (((0, 0),), ((0, 1), ((), ()))), ("tree", ()))
        self.check("shown", self.claim, (((0, 0),), ((1, 1), ((), ()))), ("tree", ()))
        claim = ("least", PATH, SHARED, ((0, 0),), (), 1)
        self.check("shown", claim, (((0, 0),), ((0, 0), ((), ()))), None)
        self.check("shown", claim, (((0, 0),), ((0, 1), ((), ()))), ("tree", ()))

    def test_a_match_that_is_none(self):
        store = (((0, 0), (1, 1)), ((0, 0), (1, 1)))
        claim = ("least", PATH, store, ((0, 0),), (), 0)
        self.check("broken", claim, ("more", ((0, 1), ((), ()))), ("tree", ()))
        self.check("broken", claim, ("more", ((0, 0), ((), ()))), ("tree", (0,)))

    def test_a_match_with_a_struck_row(self):
        query, store = grid((3, 2), (1,))
        claim = ("least", query, store, ((0,),), (), 0)
        first = ((0, 0), ((), ()))
        self.check("broken", claim, ("more", ((0, 0), (first, ()))), ("tree", (0,)))
        self.check("broken", claim, ("more", ((0, 0), (((1, 0), ((), ())), ()))), ("tree", (0, 0)))
        right = ((0, 0), (((1, 0), (((2, 0), ((), ())), ())), ()))
        self.check("broken", claim, ("more", right), ("tree", (0, 0, 1)))

    def test_spared_rows_and_none(self):
        query, store = ((0, 2), ((0, 1), (2,))), (((0, 0), (0, 1), (1, 0)), ((0,), (1,)))
        claim = ("least", query, store, ((0, 0),), (), 0)
        # At the place (0, 1) the row (0, 0) is struck, the row (0, 1) spared, the row (1, 0) struck.
        self.check("broken", claim, ("more", ((0, 0), (((1, 0), ((), ())), ()))), None)
        self.check("broken", claim, ("more", ((0, 0), (((1, 0), (None, ())), ()))), ("tree", (0,)))
        self.check("broken", claim, ("more", ((0, 0), (((1, 0), ((), None)), ()))), ("tree", (0,)))
        self.check("broken", claim, ("more", ((0, 0), (None, ()))), ("tree", ()))
        self.check("broken", claim, ("more", ((0, 0), (None, None))), ("tree", ()))
        query, store = ((), ((0,), (1,))), (((0,), (1,)), ((0,), (1,)))
        claim = ("least", query, store, ((),), (), 0)
        below = ((0, 1), (None, ()))
        # Below table 1 the row (0, 0) is spared, so that a match with it has None there.
        self.check("broken", claim, ("more", ((0, 0), ((), below))), ("tree", (0,)))
        deep = ((1, 0), (((0, 0), ((), ())), ()))
        self.check("broken", claim, ("more", ((0, 0), (((1, 0), ((), ())), below))), ("tree", (0, 0)))
        self.check("broken", claim, ("more", ((0, 1), (deep, ()))), ("tree", (0, 0)))
        self.check("broken", claim, ("more", ((0, 0), (((1, 1), (None, ())), ()))), ("tree", (0,)))

    def test_rows_spared_before_another_table(self):
        query, store = ((0,), ((0, 1), (1, 2), (2,))), (
            ((0, 0), (1, 0), (2, 1)), ((0, 0), (0, 1), (1, 0)), ((0,), (1,))
        )
        claim = ("least", query, store, ((0,),), (), 0)
        # Row 0 of table 0 is spared where row 0 of table 1 is struck; the other match of the answer shares it.
        self.check("broken", claim, ("more", ((0, 0, 0), ((), ((0, 1, 1), (None, (), ())), ()))), ("tree", (0,)))
        claim = ("least", query, store, ((0,),), ((1,),), None)
        tree = ((0, 0, 0), ((), ((0, 1, 1), (None, (), ())), ((0, 1, 1), (None, (), ()))))
        self.check("shown", claim, tree, ("tree", (0,)))
        query = ((0, 2), query[1])
        self.check("broken", ("least", query, store, ((0, 0),), (), 0), ("more", ((0, 0, 0), ((), (), ()))), None)
        self.check(
            "broken", ("least", query, store, ((0, 0),), (), 1), ("more", ((0, 0, 0), ((), (), ()))), ("tree", (0,))
        )

    def test_spared_rows_have_none_in_a_right_tree(self):
        query, store = grid((2, 2, 2), (0, 1, 2))
        claim = ("least", query, store, ((0, 0, 0), (0, 1, 1), (1, 0, 1)), (), 1)
        first, second, third = claim[3]
        right = (second, (None, (), ())), (third, ((), None, ()))
        self.check("broken", claim, ("more", (first, ((),) + right)), None)
        for below in (((), (), ()), (None, None, ()), (None, (), None), ((), None, ())):
            self.check("broken", claim, ("more", (first, ((), (second, below), right[1]))), ("tree", (1,)))
        for below in (((), (), ()), (None, None, ()), ((), None, None), (None, (), ())):
            self.check("broken", claim, ("more", (first, ((), right[0], (third, below)))), ("tree", (2,)))

    def test_kept_answers_end_a_place_that_others_do_not(self):
        wished = ((0, 0), (0, 1), (1, 0))
        claim = ("least", CROSS, SQUARE, wished, ((1, 1),), None)
        inner = ((0, 1), (None, ()))
        self.check("shown", claim, ((0, 0), (((1, 0), ((), ())), inner)), ("tree", (0, 1)))
        self.check("shown", claim, ((0, 0), (((1, 0), ((), ())), ((0, 1), ((), ())))), ("tree", (0, 1)))
        claim = ("least", CROSS, SQUARE, ((0, 0), (1, 1)), ((0, 1), (1, 0)), None)
        self.check("shown", claim, ((0, 0), ((), ())), None)

    def test_wished_answers_are_no_loss(self):
        claim = ("least", CROSS, SQUARE, ((0, 0), (0, 1)), (), 0)
        self.check("broken", claim, ("more", self.tree), ("tree", (0,)))
        self.check("shown", claim, (((0, 0),), ()), None)
        self.check("shown", claim, (((0, 1),), ()), ("strike",))

    def test_the_first_place_that_fails(self):
        claim = ("least", *grid((3, 2, 2), (0, 1, 2)), ((0, 0, 0),), (), 200)
        first = (0, 0, 0)
        self.check("broken", claim, ("more", (first, ((), (), ()))), ("tree", (0,)))
        self.check("broken", claim[:5] + (3,), ("more", (first, ((), (), ()))), ("tree", (0,)))
        self.check("broken", claim[:5] + (2,), ("more", (first, ((), (), ()))), None)
        claim = ("least", *grid((2, 3, 2), (0, 1, 2)), ((0, 0, 0),), (), 3)
        self.check("broken", claim, ("more", (first, ((), (), ()))), ("tree", (1,)))
        self.check("broken", claim, ("more", (first, ((first, ((), (), ())), (), ()))), ("tree", (0,)))
        self.check("broken", claim, ("more", ((1, 0, 0), ((first, ((), (), ())), (), ()))), ("tree", ()))

    def test_forms_of_strike_trees(self):
        for wrong in (
            None,
            0,
            True,
            [],
            "x",
            {},
            (None,),
            ((),),
            ((0, 0),),
            ((0, 0), ()),
            ((0, 0), ((),)),
            ((0, 0), ((), (), ())),
            ((0, 0), [(), ()]),
            ((0, 0), ((), ()), ()),
            [(0, 0), ((), ())],
            ([0, 0], ((), ())),
            ((0,), ((), ())),
            ((0, 0, 0), ((), ())),
            ((0, 2), ((), ())),
            ((2, 0), ((), ())),
            ((-1, 0), ((), ())),
            ((0, True), ((), ())),
            ((False, 0), ((), ())),
            ((0, None), ((), ())),
            ((0, 0), ((), 0)),
            ((0, 0), (False, ())),
            ((0, 0), ((), [])),
            ((0, 0), None),
            (None, ((), ())),
            ("hit", (0, 0)),
        ):
            # Deeper down the form counts as well, and it comes before all conditions.
            for tree in (wrong, ((0, 0), ((), wrong)), ((1, 1), (((0, 1), (wrong, ())), ()))):
                if wrong is not None or tree is None:
                    self.check("shown", self.claim, (((0, 1),), tree), ("paper",))
                    self.check("broken", self.claim, ("more", tree), ("paper",))
                    self.check("broken", ("free", CROSS, ()), (SQUARE, (9, 9), tree), ("paper",))
                    self.check("shown", ("goes",) + self.claim[1:4] + ((1, 1),), ((), tree), ("paper",))
                    self.check("broken", ("goes",) + self.claim[1:4] + ((1, 1),), ((), tree), ("paper",))
                    self.check("shown", self.claim[:4] + (((0, 1), (1, 0)), None), tree, ("paper",))

    def test_twelve_and_thirteen_matches_on_a_path(self):
        for levels, fault in ((12, ("tree", (0,))), (13, ("paper",)), (14, ("paper",)), (40, ("paper",))):
            tree = long_tree(SQUARE, levels)
            self.check("broken", self.claim, ("more", tree), fault)
            self.check("shown", self.claim[:5] + (None,), tree, fault)
            self.check("broken", ("free", CROSS, ()), (SQUARE, (0, 0), tree), fault)
            self.check("broken", self.claim, ("more", ((0, 0), ((), tree))), ("paper",))

    def test_twelve_matches_on_a_right_path(self):
        query, store = grid((12,), ())
        tree = ()
        for number in range(11, -1, -1):
            tree = ((number,), (tree,))
        claim = ("least", query, store, ((),), (), 0)
        self.check("broken", claim, ("more", tree), ("tree", (0,) * 12))
        self.check("shown", claim, (tuple([(0, k) for k in range(12)]), tree), None)

    def test_trees_that_are_wide(self):
        # All the places of this tree but the last one are right; each must be looked at.
        query, store = grid((3, 3, 2, 2, 2), (0, 1, 2, 3, 4))
        claim = ("least", query, store, ((0,) * 5,), (), None)
        self.check("broken", claim[:5] + (22,), ("more", ((0,) * 5, ((),) * 5)), None)
        self.check("broken", claim[:5] + (23,), ("more", ((0,) * 5, ((),) * 5)), ("tree", (0,)))

    def test_trees_with_many_places(self):
        tree = ()
        for _ in range(12):
            tree = ((0, 0), (tree, tree))
        self.check("broken", self.claim, ("more", tree), ("tree", (0,)))


class StayTest(CheckerTest):
    shown = ("stay", CROSS, SQUARE, ((0, 0),), ((0, 1), (1, 1)))
    broken = ("stay", CROSS, SQUARE, ((0, 0),), ((0, 1), (1, 0)))
    hit = ("hit", (0, 0))

    def test_strikes(self):
        self.check("shown", self.shown, ((1, 0),), None)
        self.check("shown", self.shown, (), ("strike",))
        self.check("shown", self.shown, ((0, 1), (1, 1)), ("strike",))
        self.check("shown", self.shown, ((0, 0),), ("kept", 0))
        self.check("shown", self.shown, ((0, 1), (1, 0)), ("kept", 1))
        self.check("shown", self.shown, ((0, 0), (0, 1)), ("kept", 0))
        self.check_papers(
            "shown", self.shown, [[], [(1, 0)], ((1, 2),), ((1, 0), (0, 0)), ((1, 0), (1, 0)), ((True, 0),), self.hit]
        )

    def test_right_trees(self):
        self.check("broken", self.broken, (0, ((1, (self.hit,)),)), None)
        self.check("broken", self.broken, (1, ((0, (self.hit,)),)), None)

    def test_a_hit_with_rows_that_are_not_spared(self):
        self.check("broken", self.broken, self.hit, ("tree", ()))
        self.check("broken", self.broken, (0, (self.hit,)), ("tree", (0,)))
        self.check("broken", self.broken, (1, (self.hit,)), ("tree", (0,)))
        self.check("broken", self.broken, (0, ((0, (self.hit,)),)), ("tree", (0, 0)))
        self.check("broken", self.shown, (0, ((1, (self.hit,)),)), ("tree", (0, 0)))

    def test_a_hit_that_is_no_match_of_a_wished_answer(self):
        for match in ((0, 1), (1, 0), (1, 1)):
            self.check("broken", self.broken, (0, ((1, (("hit", match),)),)), ("tree", (0, 0)))
        store = (((0, 0), (1, 1)), ((0, 0), (1, 1)))
        self.check("broken", ("stay", PATH, store, ((0, 0),), ((1, 1),)), (0, (("hit", (0, 1)),)), ("tree", (0,)))

    def test_each_match_of_a_kept_answer(self):
        query, store = ((0,), ((0, 1), (1, 2))), (((0, 0), (1, 0), (1, 1)), ((0, 0), (1, 0)))
        claim = ("stay", query, store, ((0,),), ((1,),))
        hit, other = ("hit", (0, 0)), ("hit", (1, 0))
        self.check("broken", claim, (0, (hit, hit)), ("tree", (0,)))
        query, store = ((0,), ((1, 0), (1,), (2, 0))), (((0, 0), (0, 1), (1, 1)), ((0,), (1,)), ((5, 0), (5, 1)))
        claim = ("stay", query, store, ((0,),), ((1,),))
        self.check("broken", claim, (0, (hit, hit)), ("paper",))
        hit = ("hit", (0, 0, 0))
        self.check("broken", claim, (0, (hit, hit)), ("tree", (0,)))
        self.check_papers(
            "broken", claim, [(0, (hit,)), (0, (hit,) * 3), (0, ()), (0, [hit, hit]), (0, (hit, other)), (0, hit)]
        )

    def test_the_indices_of_matches_in_paths(self):
        query = ((0, 3), ((0, 1), (1, 2), (3, 2)))
        store = (((0, 0), (1, 0)), ((0, 0), (0, 1)), ((0, 0), (0, 1), (1, 0), (1, 1)))
        wished, kept = ((0, 0),), ((0, 1), (1, 0))
        claim = ("stay", query, store, wished, kept)
        right = decide(claim)
        self.assertEqual(right[0], "broken")
        self.check("broken", claim, right[2], None)
        first, second = ("hit", (0, 0, 0)), ("hit", (0, 1, 1))
        self.check("broken", claim, (0, ((1, (first, second)), (1, (first, second)))), None)
        self.check("broken", claim, (1, ((0, (first, first)), (0, (second, second)))), None)
        self.check("broken", claim, (1, ((0, (first, first)), (0, (first, second)))), ("tree", (1, 0)))
        self.check("broken", claim, (0, (first, first)), ("tree", (0,)))
        self.check("broken", claim, (0, ((1, (first, first)), (1, (second, second)))), ("tree", (0, 1)))

    def test_two_and_three_indices_on_a_path(self):
        self.check("broken", self.broken, (0, ((0, (self.hit,)),)), ("tree", (0, 0)))
        self.check_papers("broken", self.broken, [(0, ((1, ((0, (self.hit,)),)),)), (0, ((0, ((0, (self.hit,)),)),))])

    def test_forms_of_staying_trees(self):
        for wrong in (
            (),
            None,
            0,
            [],
            "hit",
            ("hit",),
            ("hit", (0, 0), ()),
            ["hit", (0, 0)],
            ("hit", [0, 0]),
            ("hit", (0,)),
            ("hit", (0, 0, 0)),
            ("hit", (0, 2)),
            ("hit", (-1, 0)),
            ("hit", (0, True)),
            ("hit", None),
            ("hot", (0, 0)),
            ("", (0, 0)),
            (b"hit", (0, 0)),
            (None, (0, 0)),
            (("hit",), (0, 0)),
            (2, (self.hit,)),
            (-1, (self.hit,)),
            (True, (self.hit,)),
            (False, (self.hit,)),
            (0, self.hit),
            (0, ()),
            (0, [self.hit]),
            (0, (self.hit, self.hit)),
            (0, (None,)),
            (0, ((),)),
        ):
            self.check("broken", self.broken, wrong, ("paper",))
            self.check("broken", self.broken, (0, (wrong,)), ("paper",))
        self.check_papers("broken", ("stay", CROSS, SQUARE, ((0, 0),), ()), [(0, ()), (0, (self.hit,))])
        self.check("broken", ("stay", CROSS, SQUARE, ((0, 0),), ()), self.hit, ("tree", ()))
        self.check_papers("broken", ("stay", CROSS, SQUARE, ((0, 0),), ((0, 1),)), [(1, (self.hit,))])


class GoesTest(CheckerTest):
    query, store = ONE_COLUMN
    shown = ("goes", query, store, ((0, 0),), (0, 1))
    broken = ("goes", query, store, ((0, 0),), (1, 0))
    tree = ((0, 0), ((), ()))

    def test_shown(self):
        self.check("shown", self.shown, (((0, 0),), self.tree), None)
        self.check("shown", self.shown, ((), self.tree), ("strike",))
        self.check("shown", self.shown, (((0, 1), (1, 1)), ()), ("strike",))
        self.check("shown", self.shown, (((0, 0),), ()), ("tree", ()))
        # A strike that loses more asks for a tree that shows more.
        self.check("shown", self.shown, (((1, 0),), self.tree), ("tree", (1,)))
        self.check("shown", self.broken, (((0, 0),), self.tree), ("tree", (0,)))

    def test_broken(self):
        self.check("broken", self.broken, (((0, 0),), self.tree), None)
        self.check("broken", self.broken, ((), self.tree), ("strike",))
        self.check("broken", self.broken, (((1, 0),), self.tree), ("answer",))
        self.check("broken", self.broken, (((1, 0),), ()), ("answer",))
        self.check("broken", self.broken, (((0, 0),), ()), ("tree", ()))
        self.check("broken", self.shown, (((0, 0),), self.tree), ("answer",))
        self.check("broken", self.shown, (((1, 0),), self.tree), ("tree", (0,)))

    def test_the_other_answers_are_not_kept_in_the_tree_of_broken(self):
        query, store = grid((2, 2), (0, 1))
        claim = ("goes", query, store, ((0, 0),), (0, 1))
        self.check("broken", claim, (((1, 0),), self.tree), None)
        claim = ("goes", query, store, ((0, 0), (0, 1)), (1, 0))
        self.check("broken", claim, (((0, 0),), ()), None)
        self.check("broken", claim, (((0, 0),), self.tree), None)
        self.check("broken", claim, (((0, 0), (1, 0)), ()), ("answer",))

    def test_forms(self):
        for claim, verdict in ((self.shown, "shown"), (self.broken, "broken")):
            right = (((0, 0),), self.tree)
            wrong = [
                right[:1], right + ((),), list(right), right[::-1], (), (((0, 3),), self.tree), ([(0, 0)], self.tree)
            ]
            wrong += [
                (((0, 0),), None), (((0, 0),), []), (None, self.tree), ("fewer", ((0, 0),)),
                (((1, 0), (0, 0)), self.tree),
            ]
            self.check_papers(verdict, claim, wrong)


if __name__ == "__main__":
    unittest.main()
