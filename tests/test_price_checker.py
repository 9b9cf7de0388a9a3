"""Tests of viewstrike.pricechecker: each fault of the table of papers about prices by itself, and sampled papers."""

import copy
import random
import unittest

from tests.claimsamples import BROKEN, SHOWN
from tests.papersamples import all_parts, changed, part_at, some_strike, some_tree, with_part
from tests.pricereference import groups, is_true_price_claim, least_size, price_fault_by_document, with_row
from tests.pricesamples import (
    LOOSE_STORE,
    PAIR,
    PAIR_PRICES,
    PAIR_STORE,
    PRICE_BROKEN,
    PRICE_SHOWN,
    STAR,
    TRIANGLE,
    TRIPOD,
    line_claims,
    price_claims,
)
from tests.samples import ODD_VALUES, PATH, grid
from viewstrike.claims import decide
from viewstrike.house import House
from viewstrike.lines import gap_for
from viewstrike.priceclaims import decide_price
from viewstrike.pricechecker import first_price_fault

CLAIMS = price_claims(40, 7, 70) + line_claims(60, 71)
NO_PAPERS = (
    None, True, False, 0, 1, -1, "", "hit", "more", "fewer", "none", [], {}, [()], {0: 1}, ("x",), ((), (), (), ()),
    (None,), (1.5,), ("more",), ("fewer",), ("none", ()), ("none", None), ("more", None), ("fewer", None), (("none",),),
    ("hit", (0, 0)), b"none", ["none"], ("None",), ("none ",),
)


def long_tree(store, levels):
    """Return a tree with so many matches on one path, all of them the first one, and with () elsewhere."""
    tree = ()
    for _ in range(levels):
        tree = ((0,) * len(store), (tree,) + ((),) * (len(store) - 1))
    return tree


class PriceCheckerTest(unittest.TestCase):
    def check(self, verdict, claim, paper, fault):
        before = copy.deepcopy(paper)
        told = first_price_fault((verdict, claim, paper))
        self.assertEqual((told, str(told)), (fault, str(fault)), (verdict, claim, paper))
        by_document = price_fault_by_document(verdict, claim, paper)
        self.assertEqual((told, str(told)), (by_document, str(by_document)), (verdict, claim, paper))
        self.assertEqual(paper, before)

    def check_papers(self, verdict, claim, papers):
        for paper in papers:
            self.check(verdict, claim, paper, ("paper",))


class FormTest(PriceCheckerTest):
    def test_what_is_no_triple(self):
        right = decide_price(PRICE_SHOWN[0])
        for value in ODD_VALUES + (
            7, "abc", list(right), {0: 1, 1: 2, 2: 3}, right[:2], right + (None,), House(PAIR, ()), (0,) * 1000000,
            [right],
        ):
            self.assertEqual(first_price_fault(value), ("form",))
        self.assertIsNone(first_price_fault(certificate=right))

    def test_a_claim_that_is_not_valid(self):
        for claim in (None, True, 0, "lined", [], {}, (), ("lined",), list(PRICE_SHOWN[1]), PRICE_SHOWN[1] + (0,)) + (
            SHOWN + BROKEN + (PRICE_SHOWN[0][:5] + (2001,), PRICE_SHOWN[2][:5] + (13,), House(PAIR, ()))
        ):
            for verdict in ("shown", "broken", None, "x"):
                for paper in (None, (), [], 0, ((), ())):
                    self.assertEqual(first_price_fault((verdict, claim, paper)), ("claim",))
        for claim in SHOWN + BROKEN:
            self.assertEqual(first_price_fault(decide(claim)), ("claim",))

    def test_the_verdict(self):
        for claim in PRICE_SHOWN + PRICE_BROKEN:
            _, _, paper = decide_price(claim)
            for verdict in (
                None, True, False, 0, 1, "", "Shown", "shown ", "true", [], ["shown"], ("shown",), {}, b"shown", "fewer"
            ):
                self.check(verdict, claim, paper, ("paper",))

    def test_papers_of_other_shapes(self):
        for claim in PRICE_SHOWN + PRICE_BROKEN:
            for verdict in ("shown", "broken"):
                self.check_papers(verdict, claim, NO_PAPERS)
                self.assertEqual(first_price_fault((verdict, claim, House(PAIR, ()))), ("paper",))

    def test_parts_too_many_or_too_few(self):
        for claim in PRICE_SHOWN + PRICE_BROKEN:
            verdict, _, paper = decide_price(claim)
            wrong = [paper + (None,), paper + ((),), list(paper)]
            wrong += [paper[:-1], paper + paper[-1:], paper[1:]] if paper else []
            self.check_papers(verdict, claim, wrong)

    def test_the_other_verdict_with_the_same_paper(self):
        for claim in list(PRICE_SHOWN + PRICE_BROKEN) + CLAIMS:
            verdict, _, paper = decide_price(claim)
            self.check(verdict, claim, paper, None)
            other = "broken" if verdict == "shown" else "shown"
            told = first_price_fault((other, claim, paper))
            self.assertIsNotNone(told)
            self.check(other, claim, paper, told)


class CheapestTest(PriceCheckerTest):
    claim = ("cheapest", PAIR, PAIR_STORE, PAIR_PRICES, (4,), 3)
    strike = ((0, 1), (1, 0))
    tree = ((0, 0), (((1, 1), ((), ())), ((1, 1), ((), ()))))

    def at(self, n):
        return self.claim[:5] + (n,)

    def test_shown(self):
        self.check("shown", self.claim, (self.strike, self.tree), None)
        self.check("shown", self.claim, ((), self.tree), ("strike",))
        self.check("shown", self.claim, (((0, 0), (1, 0)), self.tree), ("strike",))
        self.check("shown", self.claim, (((0, 0), (0, 1)), self.tree), ("price",))
        self.check("shown", self.claim, (((0, 1), (1, 0), (1, 1)), self.tree), ("price",))
        self.check("shown", self.at(4), (((0, 0), (0, 1)), self.tree), ("tree", (1, 0)))
        self.check("shown", self.claim, (self.strike, ()), ("tree", ()))
        self.check("shown", self.claim, (self.strike, ((0, 0), ((), ()))), ("tree", (1,)))
        self.check("shown", self.claim, (self.strike, ((0, 1), ((), ()))), ("tree", ()))
        self.check("shown", self.claim, (self.strike, ((0, 0), (((0, 0), ((), ())), ()))), ("tree", (0,)))
        self.check("shown", self.claim, (self.strike, ((0, 0), (None, ()))), ("tree", ()))
        self.check("shown", self.at(0), ((), ()), ("strike",))

    def test_shown_with_two_faults(self):
        self.check("shown", self.claim, (((0, 0),), ()), ("strike",))
        self.check("shown", self.claim, (((0, 0), (0, 1)), ()), ("price",))
        self.check("shown", self.at(7), (((1, 0),), ((0, 1), ((), ()))), ("strike",))
        self.check("shown", self.claim, (((0, 0),), ((0, 0), ((), (), ()))), ("paper",))
        self.check("shown", self.claim, ([], ((0, 0), ((), ()))), ("paper",))
        # The first place that fails, a place before the trees in it, and these in their sequence.
        tree = ((0, 0), (((1, 1), (((0, 1), ((), ())), ())), ((0, 0), ((), ()))))
        self.check("shown", self.claim, (self.strike, tree), ("tree", (0, 0)))
        tree = ((0, 0), ((), ((0, 0), (((1, 0), ((), ())), ()))))
        self.check("shown", self.claim, (self.strike, tree), ("tree", (1,)))

    def test_fewer(self):
        self.check("broken", self.at(4), ("fewer", self.strike), None)
        self.check("broken", self.at(2000), ("fewer", ((0, 0), (0, 1), (1, 0), (1, 1))), None)
        self.check("broken", self.claim, ("fewer", self.strike), ("price",))
        self.check("broken", self.at(0), ("fewer", self.strike), ("price",))
        self.check("broken", self.at(5), ("fewer", ((0, 0), (0, 1))), None)
        self.check("broken", self.at(4), ("fewer", ((0, 0), (0, 1))), ("price",))
        self.check("broken", self.at(4), ("fewer", ((0, 0),)), ("strike",))
        self.check("broken", self.at(0), ("fewer", ((0, 0),)), ("strike",))
        self.check("broken", self.at(4), ("fewer", ()), ("strike",))

    def test_more(self):
        self.check("broken", self.at(2), ("more", self.tree), None)
        self.check("broken", self.at(0), ("more", self.tree), None)
        self.check("broken", self.at(0), ("more", ((0, 0), ((), ()))), None)
        self.check("broken", self.claim, ("more", self.tree), ("tree", (1, 0)))
        self.check("broken", self.at(2), ("more", ()), ("tree", ()))
        self.check("broken", self.at(2), ("more", ((0, 0), ((), ()))), ("tree", (1,)))
        self.check("broken", self.at(2000), ("more", self.tree), ("tree", (0, 0)))
        self.check("broken", self.at(1), ("more", ((0, 0), ((), ()))), None)

    def test_forms_of_strikes(self):
        wrong = (
            None, [], ((0, 1), (0, 1)), ((1, 0), (0, 1)), ((0, 2),), ((2, 0),), ((0, True),), ((False, 1),), ((0, -1),),
            ((0,),), ((0, 1, 0),), [(0, 1)], ([0, 1],), (0, 1), ((0, 1), None), "", 0, ("fewer",),
        )
        self.check_papers("shown", self.claim, [(strike, self.tree) for strike in wrong])
        self.check_papers("broken", self.at(4), [("fewer", strike) for strike in wrong])

    def test_forms_of_trees(self):
        wrong = [None, [], (None,), ((0, 0),), ((0, 0), ()), ((0, 0), ((),)), ((0, 0), ((), (), ()))]
        wrong += [((0, 0), [(), ()]), ((0,), ((), ())), ((0, 0, 0), ((), ())), ([0, 0], ((), ())), ((0, 2), ((), ()))]
        wrong += [((0, True), ((), ())), ((0, -1), ((), ())), ((0, None), ((), ())), (None, ((), ()))]
        wrong += [((0, 0), ((), ()), ()), "", 0, ((), ())]
        wrong += [((0, 0), (tree, ())) for tree in wrong if tree is not None]
        wrong += [((0, 0), ((), tree)) for tree in wrong if tree is not None]
        self.check_papers("shown", self.claim, [(self.strike, tree) for tree in wrong])
        self.check_papers("shown", self.claim, [((), tree) for tree in wrong])
        self.check_papers("broken", self.at(2), [("more", tree) for tree in wrong])

    def test_twelve_and_thirteen_matches_on_a_path(self):
        for levels in (1, 12, 13, 14, 90):
            fault = ("tree", (0,)) if levels <= 12 else ("paper",)
            self.check("broken", self.at(2000), ("more", long_tree(PAIR_STORE, levels)), fault)
            self.check("shown", self.claim, ((), long_tree(PAIR_STORE, levels)), fault if levels > 12 else ("strike",))
        query, store = grid((12,), ())
        tree = ()
        for number in range(12):
            tree = ((number,), (tree,))
        claim = ("cheapest", query, store, ((2,) * 12,), (), 23)
        self.check("broken", claim, ("more", tree), None)
        self.check("broken", claim, ("more", ((0,), (tree,))), ("paper",))
        self.check("broken", claim[:5] + (24,), ("more", tree), ("tree", (0,) * 12))


class LinedTest(PriceCheckerTest):
    def test_shown(self):
        claim = ("lined", ((), ((0, 1), (2,), (1, 2))))
        self.check("shown", claim, (0, 2, 1), None)
        self.check("shown", claim, (1, 2, 0), None)
        self.check("shown", claim, (0, 1, 2), ("variable", 1))
        self.check("shown", claim, (2, 0, 1), ("variable", 2))
        claim = ("lined", ((1,), ((4, 1), (3, 4), (1, 3), (3, 4))))
        self.check("shown", claim, (0, 1, 2, 3), ("variable", 4))
        self.check("shown", claim, (1, 2, 0, 3), ("variable", 3))
        self.check("shown", claim, (2, 1, 0, 3), ("variable", 3))
        self.check("shown", claim, (0, 1, 3, 2), None)
        self.check("shown", claim, (3, 1, 2, 0), ("variable", 4))
        self.check("shown", ("lined", ((0, 1, 2), TRIANGLE[1])), (2, 1, 0), None)
        for order in ((0, 1, 2), (1, 2, 0), (2, 0, 1)):
            fault = {(0, 1, 2): 0, (1, 2, 0): 1, (2, 0, 1): 2}[order]
            self.check("shown", ("lined", TRIANGLE), order, ("variable", fault))

    def test_forms_of_lines(self):
        claim = ("lined", ((), ((0, 1), (2,), (1, 2))))
        wrong = (
            (), (0, 2), (0, 2, 1, 1), (0, 2, 2), (0, 2, 3), (0, 2, -1), (False, 2, 1), (0, 2, True), [0, 2, 1],
            (0, 2, None),
            ("0", "2", "1"), ((0, 2, 1),), "021", {0: 0, 2: 1, 1: 2}, (0,) * 100000,
        )
        self.check_papers("shown", claim, wrong)

    def test_gaps_that_calls_returned(self):
        for query in (TRIANGLE, TRIPOD, STAR):
            self.check("broken", ("lined", query), gap_for(query), None)
            self.check("shown", ("lined", query), gap_for(query), ("paper",))

    def test_an_answer_that_is_not_in_the_view(self):
        query = ((3,), ((3, 0, 1), (1, 3, 2), (2, 3, 0)))
        store, prices, answer, halves, tree = gap_for(query)
        self.assertEqual(answer, (0,))
        self.check("broken", ("lined", query), (store, prices, answer, halves, tree), None)
        for other in ((1,), (999,)):
            self.check("broken", ("lined", query), (store, prices, other, halves, tree), ("answer",))
            self.check("broken", ("lined", query), (store, prices, other, prices, ()), ("answer",))
        wrong = (None, 0, (), (0, 0), [0], (True,), (False,), (1000,), (-1,), ("0",), ((0,),))
        self.check_papers("broken", ("lined", query), [(store, prices, other, halves, tree) for other in wrong])
        store = ((), (), ())
        self.check("broken", ("lined", TRIANGLE), (store, store, (), store, ()), ("answer",))

    small = (((0, 0), (1, 0)), ((0, 0), (0, 1)))
    pair = ("lined", ((), ((0, 1), (1, 2))))

    def test_halves_that_do_not_cover(self):
        ones = ((1, 1), (1, 1))
        for halves, match in (
            (((0, 0), (0, 0)), (0, 0)), (((2, 0), (0, 0)), (1, 0)), (((1, 1), (1, 0)), (0, 1)),
            (((2, 1), (0, 1)), (1, 0)),
            (((1, 0), (1, 2)), (1, 0)), (((2, 1), (1, 0)), (1, 1)), (((0, 99), (99, 1)), (0, 1)),
        ):
            self.check("broken", self.pair, (self.small, ones, (), halves, ()), ("match", match))
        for halves in (((1, 1), (1, 1)), ((2, 2), (0, 0)), ((0, 0), (2, 99)), ((99, 99), (99, 99))):
            self.check("broken", self.pair, (self.small, ones, (), halves, ()), ("tree", ()))

    def test_only_matches_of_the_answer_count(self):
        query = ((1,), ((0, 1), (1, 2)))
        store = (((0, 0), (0, 1)), ((0, 0), (1, 0)))
        prices = ((5, 5), (5, 5))
        self.check("broken", ("lined", query), (store, prices, (1,), ((0, 1), (0, 1)), ()), ("tree", ()))
        self.check("broken", ("lined", query), (store, prices, (1,), ((1, 1), (1, 0)), ()), ("match", (1, 1)))

    def test_the_least_number_whose_double_is_above_the_worth(self):
        # No paper can be right for a query with a line; the tree fails for n and holds below it.
        store = (((0, 0),), ((0, 0),))
        tree = ((0, 0), ((), ()))
        for prices, halves, fault in (
            (((3,), (3,)), ((1,), (1,)), ("tree", (0,))), (((3,), (4,)), ((2,), (0,)), ("tree", (0,))),
            (((4,), (3,)), ((0,), (2,)), ("tree", (1,))), (((9,), (4,)), ((0,), (2,)), ("tree", (1,))),
            (((4,), (3,)), ((1,), (1,)), ("tree", (1,))), (((3,), (4,)), ((1,), (1,)), ("tree", (0,))),
        ):
            self.check("broken", self.pair, (store, prices, (), halves, tree), fault)
        # The worth 9 asks for 5, the worth 10 for 6, the worth 8 for 5.
        store, prices, answer, halves, right = gap_for(TRIANGLE)
        claim = ("lined", TRIANGLE)
        self.check("broken", claim, (store, prices, answer, halves, right), None)
        k = prices[0].index(1)
        dearer = (prices[0][:k] + (2,) + prices[0][k + 1 :],) + prices[1:]
        told = first_price_fault(("broken", claim, (store, dearer, answer, halves, right)))
        self.assertEqual(told[0], "tree")
        self.check("broken", claim, (store, dearer, answer, halves, right), told)
        freed = (prices[0][:k] + (0,) + prices[0][k + 1 :],) + prices[1:]
        told = first_price_fault(("broken", claim, (store, freed, answer, halves, right)))
        self.assertEqual(told[0], "tree")
        self.check("broken", claim, (store, freed, answer, halves, right), told)

    def test_forms_of_gaps(self):
        store, prices, answer, halves, tree = gap_for(TRIANGLE)
        claim = ("lined", TRIANGLE)
        right = (store, prices, answer, halves, tree)
        self.check_papers("broken", claim, [right[:4], right + ((),), list(right), right[::-1], (right,)])
        tables = (None, [], (), store[:2], store + ((),), list(store), (store[0][::-1],) + store[1:], ((),) * 3, 0)
        self.check_papers("broken", claim, [(other,) + right[1:] for other in tables])
        thirteen = tuple([(0, k) for k in range(13)])
        self.check_papers("broken", claim, [((thirteen,) + store[1:],) + right[1:]])
        for index in (1, 3):
            worths = right[index]
            for other in (
                None, [], (), worths[:2], worths + ((),), list(worths), (worths[0][1:],) + worths[1:],
                (worths[0] + (1,),) + worths[1:], (list(worths[0]),) + worths[1:], (None,) + worths[1:],
                ((100,) + worths[0][1:],) + worths[1:], ((-1,) + worths[0][1:],) + worths[1:],
                ((True,) + worths[0][1:],) + worths[1:], ((None,) + worths[0][1:],) + worths[1:],
            ):
                self.check_papers("broken", claim, [right[:index] + (other,) + right[index + 1 :]])
            bound = ((99,) + worths[0][1:],) + worths[1:]
            told = first_price_fault(("broken", claim, right[:index] + (bound,) + right[index + 1 :]))
            self.assertNotEqual(told, ("paper",))
        trees = (None, [], ((0, 0, 0),), ((0, 0), ((), ())), ((0, 0, 0), ((), ())), ((0, 0, 12), ((), (), ())), "", 0)
        self.check_papers("broken", claim, [right[:4] + (other,) for other in trees])
        self.check_papers("broken", claim, [right[:4] + (long_tree(store, 13),)])
        # The whole form is looked at before any condition.
        self.check_papers("broken", claim, [(((), (), ()), ((), (), ()), (), ((), (), ()), None)])
        self.check("broken", claim, (((), (), ()), ((), (), ()), (), ((), (), ()), ()), ("answer",))

    def test_stores_may_have_as_many_rows_as_stores_have(self):
        query = ((), ((0,), (1,), (2,), (3,), (4,)))
        store = tuple([tuple([(k,) for k in range(12)])] * 5)
        ones = ((1,) * 12,) * 5
        claim = ("lined", query)
        tree = long_tree(store, 1)
        self.assertEqual(first_price_fault(("broken", claim, (store, ones, (), ones, ()))), ("tree", ()))
        self.assertEqual(first_price_fault(("broken", claim, (store, ones, (), ones, tree))), ("tree", (0,)))
        last = ((1,) * 12,) + ((0,) * 12,) * 3 + ((1,) * 11 + (0,),)
        self.assertEqual(first_price_fault(("broken", claim, (store, ones, (), last, ()))), ("match", (0, 0, 0, 0, 11)))
        query, store = (((0,), query[1]), tuple([tuple([(k,) for k in range(12)])] * 5))
        self.assertEqual(first_price_fault(("broken", ("lined", query), (store, ones, (12,), ones, ()))), ("answer",))

    def test_twelve_matches_on_a_path(self):
        query = ((), ((0,), (1,)))
        store = (tuple([(k,) for k in range(12)]), ((0,),))
        prices, halves = ((1,) * 12, (99,)), ((1,) * 12, (1,))
        tree = ()
        for number in range(11, -1, -1):
            tree = ((number, 0), (tree, ()))
        self.check("broken", ("lined", query), (store, prices, (), halves, tree), ("tree", (0,) * 12))
        self.check("broken", ("lined", query), (store, prices, (), halves, ((0, 0), (tree, ()))), ("paper",))


class DecidesTest(PriceCheckerTest):
    claim = ("decides", PAIR, LOOSE_STORE, (4,), (0, 0), 1)
    tree = ((1, 1), ((), ()))

    def at(self, n, place=(0, 0)):
        return self.claim[:4] + (place, n)

    def test_shown(self):
        self.check("shown", self.claim, (((1, 1),), (self.tree,)), None)
        self.check("shown", self.claim, (((0, 1),), (self.tree,)), None)
        self.check("shown", self.claim, ((), (self.tree,)), ("lot",))
        self.check("shown", self.claim, (((0, 0),), (self.tree,)), ("lot",))
        self.check("shown", self.claim, (((0, 0), (1, 1)), (self.tree,)), ("lot",))
        self.check("shown", self.claim, (((0, 2),), (self.tree,)), ("lot",))
        self.check("shown", self.claim, (((0, 1), (1, 0)), (self.tree,)), ("lot",))
        self.check("shown", self.claim, (((0, 1), (1, 1)), (self.tree,)), ("size",))
        self.check("shown", self.claim, (((0, 2), (1, 1)), (self.tree,)), ("size",))
        self.check("shown", self.claim, (((1, 1),), ((),)), ("tree", 0, ()))
        self.check("shown", self.claim, (((1, 1),), (((0, 0), ((), ())),)), ("tree", 0, ()))
        self.check("shown", self.at(2), (((0, 2), (1, 1)), (self.tree,)), ("tree", 0, (0,)))
        self.check("shown", self.at(0), (((1, 1),), (self.tree,)), ("size",))
        self.check("shown", self.at(0), ((), ((),)), ("lot",))

    def test_shown_with_two_faults(self):
        self.check("shown", self.claim, (((0, 0), (0, 1)), ((),)), ("lot",))
        self.check("shown", self.claim, (((0, 1), (1, 1)), ((),)), ("size",))
        self.check("shown", self.at(12), ((), ((),)), ("lot",))
        self.check("shown", self.claim, ((), (None,)), ("paper",))
        self.check("shown", self.claim, ((), ()), ("paper",))

    def test_the_first_tree_that_is_not_right(self):
        query, store = grid((2, 2), ())
        claim = ("decides", query, store, (), (0, 0), 1)
        first, second = ((1, 0), ((), None)), ((1, 1), ((), None))
        self.check("shown", claim, (((0, 1),), (first, second)), None)
        self.check("shown", claim, (((0, 1),), ((), second)), ("tree", 0, ()))
        self.check("shown", claim, (((0, 1),), (first, ())), ("tree", 1, ()))
        self.check("shown", claim, (((0, 1),), ((), ())), ("tree", 0, ()))
        # The rows of its own match are safe: they are spared from the root on.
        self.check("shown", claim, (((0, 1),), (second, first)), ("tree", 0, ()))
        self.check("shown", claim, (((0, 1),), (first, ((1, 1), ((), ())))), ("tree", 1, ()))
        self.check("shown", claim, (((0, 1),), (((1, 0), (None, None)), second)), ("tree", 0, ()))
        # A match with the row is none of the wanted ones.
        self.check("shown", claim, (((0, 1),), (((0, 0), (None, None)), second)), ("tree", 0, ()))
        self.check("shown", claim, (((0, 1),), (((0, 1), (None, ())), second)), ("tree", 0, ()))
        deep = ((1, 1), ((), ((1, 0), (None, None))))
        self.check("shown", claim, (((0, 1),), (deep, second)), None)
        self.check("shown", claim, (((0, 1),), (((1, 1), ((), ((1, 0), ((), None)))), second)), ("tree", 0, (1,)))
        for trees in ((first,), (first, second, second), (), [first, second], (first, None), (first, [])):
            self.check("shown", claim, (((0, 1),), trees), ("paper",))

    def test_shown_for_none(self):
        self.check("shown", self.at(None, (0, 2)), (), None)
        self.check("shown", self.at(None, (0, 0)), (), ("match",))
        self.check("shown", self.at(None, (1, 1)), (), ("match",))
        wrong = [("none",), ((), ()), (((1, 1),), (self.tree,)), [], None, ((),)]
        self.check_papers("shown", self.at(None, (0, 2)), wrong)
        self.check_papers("shown", self.claim, [(), ("none",)])

    def test_a_row_without_a_match_has_no_trees(self):
        for n in (0, 1, 12):
            self.check_papers("shown", self.at(n, (0, 2)), [((), ()), (((1, 1),), (self.tree,)), ((), ((),)), ()])
            self.check_papers("broken", self.at(n, (0, 2)), [("more", ()), ("more", (self.tree,)), ("more", ((),))])

    def test_fewer(self):
        self.check("broken", self.at(2), ("fewer", ((1, 1),)), None)
        self.check("broken", self.at(12), ("fewer", ((0, 1), (0, 2), (1, 1))), None)
        self.check("broken", self.at(None), ("fewer", ((1, 1),)), None)
        self.check("broken", self.at(None), ("fewer", ((0, 1), (0, 2), (1, 1))), None)
        self.check("broken", self.claim, ("fewer", ((1, 1),)), ("size",))
        self.check("broken", self.at(0), ("fewer", ((1, 1),)), ("size",))
        self.check("broken", self.at(2), ("fewer", ((0, 1), (1, 1))), ("size",))
        self.check("broken", self.at(2), ("fewer", ()), ("lot",))
        self.check("broken", self.at(0), ("fewer", ()), ("lot",))
        self.check("broken", self.at(None), ("fewer", ()), ("lot",))
        self.check("broken", self.at(None, (0, 2)), ("fewer", ((0, 0), (0, 1))), ("lot",))
        self.check("broken", self.at(0), ("fewer", ((0, 1), (1, 0))), ("lot",))

    def test_more(self):
        self.check("broken", self.at(0), ("more", (self.tree,)), None)
        self.check("broken", self.claim, ("more", (self.tree,)), ("tree", 0, (0,)))
        self.check("broken", self.at(0), ("more", ((),)), ("tree", 0, ()))
        self.check("broken", self.at(12), ("more", (self.tree,)), ("tree", 0, (0,)))
        query, store = grid((2, 3), ())
        claim = ("decides", query, store, (), (0, 0), 0)
        trees = tuple([((1, k), ((), None)) for k in range(3)])
        self.check("broken", claim, ("more", trees), None)
        self.check("broken", claim, ("more", trees[:2] + ((),)), ("tree", 2, ()))
        self.check("broken", claim, ("more", trees[:1] + ((), ())), ("tree", 1, ()))
        wrong = [("more", told) for told in (trees[:2], trees + ((),), (), list(trees))]
        self.check_papers("broken", claim, wrong)
        self.check_papers("broken", self.at(None), [("more", (self.tree,)), ("more", ((),)), ("more", ())])

    def test_none(self):
        self.check("broken", self.at(0, (0, 2)), ("none",), None)
        self.check("broken", self.at(12, (0, 2)), ("none",), None)
        self.check("broken", self.at(0), ("none",), ("match",))
        self.check("broken", self.at(1, (1, 0)), ("none",), ("match",))
        self.check_papers("broken", self.at(None, (0, 2)), [("none",), ()])
        self.check_papers("broken", self.at(None), [("none",)])

    def test_twelve_and_thirteen_matches_on_a_path(self):
        query, store = grid((12,), ())
        claim = ("decides", query, store, (), (0, 0), 11)
        tree = ()
        for number in range(11, 0, -1):
            tree = ((number,), (tree,))
        strike = tuple([(0, k) for k in range(1, 12)])
        self.check("shown", claim, (strike, (tree,)), None)
        self.check("broken", claim[:5] + (10,), ("more", (tree,)), None)
        self.check("broken", claim[:5] + (11,), ("more", (tree,)), ("tree", 0, (0,) * 11))
        self.check("shown", claim, (strike, (((1,), (tree,)),)), ("tree", 0, (0,)))
        self.check("shown", claim, (strike, (((1,), (((1,), (tree,)),)),)), ("paper",))
        self.check("shown", claim, ((), (((1,), (((1,), (tree,)),)),)), ("paper",))

    def test_forms_of_strikes(self):
        for strike in (
            None, [], ((1, 1), (1, 1)), ((1, 1), (0, 1)), ((1, 2),), ((True, 1),), [(1, 1)], (1, 1), "", ((1, 1), 0),
        ):
            self.check_papers("shown", self.claim, [(strike, (self.tree,))])
            self.check_papers("broken", self.at(2), [("fewer", strike)])
            self.check_papers("broken", self.at(None), [("fewer", strike)])


def some_lot(some, claim):
    """Return a strike, most times a lot."""
    _, query, store, answer, place, _ = claim
    matches = groups(query, store)[answer]
    inside = with_row(query, store, answer, place)
    if not inside or some.randrange(4) == 0:
        return some_strike(some, groups(query, store), store, (answer,))
    safe = set(enumerate(some.choice(inside)))
    strike = set()
    for match in matches:
        rows = [row for row in enumerate(match) if row not in safe]
        if match not in inside and not set(enumerate(match)) & strike:
            strike.add(some.choice(rows))
    return tuple(sorted(strike))


def some_paper(some, claim, verdict):
    """Return a paper of the right form for a claim about a store."""
    _, query, store = claim[:3]
    answer, n = claim[4 if claim[0] == "cheapest" else 3], claim[5]
    told = groups(query, store)
    if claim[0] == "cheapest":
        strike = some_strike(some, told, store, (answer,))
        tree = some_tree(some, told, store, (answer,), 5)
        if verdict == "shown":
            return (strike, tree)
        return ("fewer", strike) if some.randrange(2) else ("more", tree)
    inside = with_row(query, store, answer, claim[4])
    outside = [match for match in told[answer] if match not in inside] or told[answer]
    trees = tuple([
        some_tree(some, {answer: outside}, store, (answer,), 4, frozenset(enumerate(match))) for match in inside
    ])
    if verdict == "shown":
        return () if n is None else (some_lot(some, claim), trees)
    return some.choice((("fewer", some_lot(some, claim)), ("more", trees), ("none",)))


class SampledPapersTest(PriceCheckerTest):
    def compare(self, verdict, claim, paper):
        fault = price_fault_by_document(verdict, claim, paper)
        self.check(verdict, claim, paper, fault)
        if fault is None:
            self.assertEqual(verdict, "shown" if is_true_price_claim(claim) else "broken", (claim, paper))
        return None if fault is None else fault[0]

    def test_papers_of_other_claims_never_show_what_is_false(self):
        some = random.Random(72)
        papers = [decide_price(claim)[2] for claim in CLAIMS]
        for claim in CLAIMS:
            for paper in some.sample(papers, 5):
                for verdict in ("shown", "broken"):
                    self.compare(verdict, claim, paper)

    def test_changed_papers(self):
        some = random.Random(73)
        told = set()
        for claim in CLAIMS:
            verdict, _, paper = decide_price(claim)
            for _ in range(12):
                other = paper
                for _ in range(some.choice((1, 1, 1, 2))):
                    path = some.choice(all_parts(other))
                    other = with_part(other, path, changed(some, part_at(other, path), (other, paper)))
                told.add((claim[0], verdict, self.compare(verdict, claim, other)))
        for kind in ("cheapest", "lined", "decides"):
            for verdict in ("shown", "broken"):
                self.assertIn((kind, verdict, "paper"), told)
                self.assertIn((kind, verdict, None), told)

    def test_papers_of_the_right_form_for_stores(self):
        some = random.Random(74)
        told = set()
        for claim in [claim for claim in CLAIMS if claim[0] != "lined"] + list(PRICE_SHOWN + PRICE_BROKEN) * 2:
            if claim[0] != "lined":
                for verdict in ("shown", "broken"):
                    for _ in range(6):
                        told.add((claim[0], verdict, self.compare(verdict, claim, some_paper(some, claim, verdict))))
        for kind, verdict, words in (
            ("cheapest", "shown", "strike price tree"), ("cheapest", "broken", "strike price tree"),
            ("decides", "shown", "lot size tree match"), ("decides", "broken", "lot size tree match"),
        ):
            for word in words.split() + [None]:
                self.assertIn((kind, verdict, word), told)

    def test_gaps_with_other_prices_and_halves(self):
        some = random.Random(75)
        told = set()
        for query in (TRIANGLE, TRIPOD, STAR, ((), ((0, 1), (1, 2), (2, 3), (3, 0)))):
            store, prices, answer, halves, tree = gap_for(query)
            for _ in range(60):
                others = []
                for worths in (prices, halves):
                    table = some.randrange(len(worths))
                    row = some.randrange(len(worths[table]))
                    others.append(with_part(worths, (table, row), some.choice((0, 1, 2, 3, 99, worths[table][row]))))
                paper = (store, some.choice((prices, others[0])), answer, some.choice((halves, others[1])), tree)
                told.add(self.compare("broken", ("lined", query), paper))
        self.assertTrue({None, "match", "tree"} <= told)

    def test_sizes_are_those_of_the_definition(self):
        for claim in CLAIMS:
            if claim[0] == "decides" and claim[5] is not None:
                size = least_size(*claim[1:5])
                paper = decide_price(claim)[2]
                self.assertEqual(paper[0] == "fewer", size is not None and size < claim[5])
        self.assertEqual(first_price_fault(decide_price(("lined", PATH))), None)


if __name__ == "__main__":
    unittest.main()
