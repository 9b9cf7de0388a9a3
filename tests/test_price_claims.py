"""Tests of viewstrike.priceclaims: require_price_claim, decide_price."""

import copy
import unittest

from tests.claimsamples import BROKEN, SHOWN
from tests.pricereference import groups, is_true_price_claim, price_fault_by_document
from tests.pricesamples import (
    LOOSE_STORE,
    PAIR,
    PAIR_PRICES,
    PAIR_STORE,
    PRICE_BROKEN,
    PRICE_SHOWN,
    STAR,
    TRIANGLE,
    TRIPOD,
    line_claims,
    price_claims,
)
from tests.samples import ODD_VALUES, PATH, RICH, grid
from viewstrike.checker import first_fault
from viewstrike.claims import decide, require_claim
from viewstrike.errors import InvalidClaim
from viewstrike.house import House
from viewstrike.priceclaims import decide_price, require_price_claim
from viewstrike.pricechecker import first_price_fault

CLAIMS = price_claims(60) + line_claims(120)
FULL_CLAIMS = price_claims(2, 11, 60)
CHEAPEST = PRICE_SHOWN[0]
DECIDES = PRICE_SHOWN[2]
ODD = tuple([value for value in ODD_VALUES if value is not None])


class RequirePriceClaimTest(unittest.TestCase):
    def check_wrong(self, value):
        before = value if isinstance(value, House) else copy.deepcopy(value)
        for function in (require_price_claim, decide_price):
            with self.assertRaises(InvalidClaim) as caught:
                function(value)
            self.assertIsInstance(caught.exception, ValueError)
        self.assertEqual(first_price_fault(("shown", value, ())), ("claim",))
        if not isinstance(value, House):
            self.assertEqual(value, before)

    def check_wrong_part(self, claim, index, values):
        for value in values:
            self.check_wrong(claim[:index] + (value,) + claim[index + 1 :])

    def test_valid_claims_come_back_as_they_are(self):
        for claim in PRICE_SHOWN + PRICE_BROKEN + tuple(CLAIMS):
            self.assertIs(require_price_claim(claim), claim)
            self.assertIs(require_price_claim(claim=claim), claim)

    def test_what_is_no_tuple_that_begins_with_a_kind(self):
        deep = ()
        for _ in range(97):
            deep = (deep,)
        for value in ODD_VALUES + (
            7, "lined", list(CHEAPEST), {0: "lined", 1: PAIR}, deep, (0,) * 1000000, House(PAIR, ()), ("lined",),
            b"lined",
            ("cheapest",), ("decides",), ("lined", PAIR, ()), ("lined", PAIR, PAIR), "cheapest",
        ):
            self.check_wrong(value)

    def test_the_claims_of_twenty_are_none_of_these_and_these_none_of_them(self):
        for claim in SHOWN + BROKEN:
            self.assertIs(require_claim(claim), claim)
            self.check_wrong(claim)
        for claim in PRICE_SHOWN + PRICE_BROKEN:
            self.assertRaises(InvalidClaim, require_claim, claim)
            self.assertRaises(InvalidClaim, decide, claim)
            self.assertEqual(first_fault(decide_price(claim)), ("claim",))

    def test_kinds_that_are_none(self):
        for claim in PRICE_SHOWN + PRICE_BROKEN:
            words = ("", "Lined", "cheapest ", "line", "decide", "shown", "least", "goes", "free", "headed", "stay")
            self.check_wrong_part(claim, 0, words + (None, True, 0, (claim[0],), [claim[0]], b"lined", {}, ()))
        self.check_wrong(("decides",) + CHEAPEST[1:])
        self.check_wrong(("cheapest",) + DECIDES[1:])

    def test_parts_too_many_or_too_few(self):
        for claim in PRICE_SHOWN + PRICE_BROKEN:
            for value in (claim[:-1], claim + (None,), claim + claim[-1:], claim[:1], claim[1:], list(claim)):
                self.check_wrong(value)

    def test_queries(self):
        wrong = (PAIR + ((),), list(PAIR), (PAIR[0], list(PAIR[1])), ((6,), PAIR[1]), ((), ()), (PAIR[0], PAIR[1] * 3))
        for claim in PRICE_SHOWN + PRICE_BROKEN:
            self.check_wrong_part(claim, 1, ODD_VALUES + wrong + (((False,), PAIR[1]), ((0,), ((0, 0), (1,))), "ab"))

    def test_stores(self):
        store = PAIR_STORE
        for claim in (CHEAPEST, PRICE_BROKEN[0], DECIDES, PRICE_BROKEN[3]):
            self.check_wrong_part(claim, 2, ODD_VALUES + (
                list(store), store + ((),), store[:1], (store[0], list(store[1])), (store[0], store[1][::-1]), ((), ()),
                (store[0], ((5,), (1000,))), (store[0], ((5,), (True,))), (store[0], ((5, 5),)), (store[1], store[0]),
            ))
        # The store need not keep any rules.
        self.assertIs(require_price_claim(CHEAPEST), CHEAPEST)

    def test_twelve_and_thirteen_rows_in_all_tables(self):
        for sizes, right in (((6, 6), True), ((11, 1), True), ((7, 6), False), ((12, 1), False), ((12, 12), False)):
            query, store = grid(sizes, (0,))
            prices = tuple([(1,) * many for many in sizes])
            for claim in (
                ("cheapest", query, store, prices, (0,), 1), ("decides", query, store, (0,), (0, 0), 0)
            ):
                if right:
                    self.assertIs(require_price_claim(claim), claim)
                else:
                    self.check_wrong(claim)
        self.check_wrong(("cheapest", *grid((13,), ()), ((1,) * 13,), (), 13))

    def test_prices(self):
        self.check_wrong_part(CHEAPEST, 3, ODD_VALUES + (
            list(PAIR_PRICES), PAIR_PRICES[:1], PAIR_PRICES + ((),), ([3, 1], (2, 5)), ((3,), (2, 5)),
            ((3, 1, 0), (2, 5)),
            ((3, 1), (2, 100)), ((3, -1), (2, 5)), ((3, True), (2, 5)), ((3, 1), (2, None)), ((3, 1), ("2", 5)), (3, 1),
        ))
        for prices in (((0, 0), (0, 0)), ((99, 99), (99, 99))):
            claim = CHEAPEST[:3] + (prices,) + CHEAPEST[4:]
            self.assertIs(require_price_claim(claim), claim)

    def test_answers(self):
        wrong = ODD_VALUES + ((5,), (4, 4), [4], (4.0,), ("4",), 4, ((4,),), (-1,), (1000,), "4")
        self.check_wrong_part(CHEAPEST, 4, wrong)
        self.check_wrong_part(DECIDES, 3, wrong + ((9,),))
        query, store = grid((2, 2), (0, 1))
        claim = ("decides", query, store, (1, 0), (0, 0), None)
        self.assertIs(require_price_claim(claim), claim)
        self.check_wrong_part(claim, 3, ((True, 0), (1, False), (1, 2), (1,), ()))
        self.check_wrong_part(("decides", *grid((2, 2), ()), (), (0, 0), 1), 3, (None, (0,), [], False))

    def test_places(self):
        self.check_wrong_part(DECIDES, 4, ODD_VALUES + (
            0, (0,), (0, 0, 0), [0, 0], (2, 0), (0, 3), (1, 2), (-1, 0), (0, -1), (False, 0), (0, False), (None, 0),
            ("0", "0"), ((0, 0),), (0, 10**40), {0: 0},
        ))
        for place in ((0, 0), (0, 1), (0, 2), (1, 0), (1, 1)):
            claim = DECIDES[:4] + (place,) + DECIDES[5:]
            self.assertIs(require_price_claim(claim), claim)

    def test_n(self):
        for n in (0, 1, 1999, 2000):
            claim = CHEAPEST[:5] + (n,)
            self.assertIs(require_price_claim(claim), claim)
        self.check_wrong_part(CHEAPEST, 5, ODD_VALUES + (-1, 2001, 10**40, (3,), "3"))
        for n in (0, 1, 11, 12, None):
            claim = DECIDES[:5] + (n,)
            self.assertIs(require_price_claim(claim), claim)
        self.check_wrong_part(DECIDES, 5, ODD + (-1, 13, 10**40, (1,), "1"))

    def test_what_calls_returned(self):
        for claim in PRICE_SHOWN + PRICE_BROKEN:
            self.check_wrong(decide_price(claim))
            self.check_wrong((claim,) + claim[1:])
            self.check_wrong(claim[:1] + (claim,) + claim[2:])


class DecidePriceTest(unittest.TestCase):
    def check_claim(self, claim):
        certificate = decide_price(claim)
        self.assertIs(type(certificate), tuple)
        verdict, told, paper = certificate
        self.assertEqual(told, claim)
        self.assertEqual(verdict, "shown" if is_true_price_claim(claim) else "broken", claim)
        self.check_accepted(certificate)
        other = "broken" if verdict == "shown" else "shown"
        self.assertIsNotNone(first_price_fault((other, claim, paper)))
        return certificate

    def check_accepted(self, certificate):
        self.assertIsNone(first_price_fault(certificate), certificate)
        self.assertIsNone(price_fault_by_document(*certificate), certificate)
        self.assertEqual(decide_price(copy.deepcopy(certificate[1])), certificate)

    def test_example_of_the_interface(self):
        told = decide_price(CHEAPEST)
        fault = first_price_fault(("broken", CHEAPEST, ("fewer", ((0, 0),))))
        self.assertEqual((told[0], first_price_fault(told), fault), ("shown", None, ("strike",)))

    def test_each_kind_and_verdict(self):
        for verdict, claims in (("shown", PRICE_SHOWN), ("broken", PRICE_BROKEN)):
            for claim in claims:
                self.assertEqual(self.check_claim(claim)[0], verdict)
                self.assertEqual(decide_price(claim=claim), decide_price(claim))

    def test_papers_that_can_only_be_one(self):
        self.assertEqual(decide_price(PRICE_SHOWN[3])[2], ())
        self.assertEqual(decide_price(PRICE_BROKEN[6])[2], ("none",))
        self.assertEqual(decide_price(PRICE_BROKEN[0])[2], ("fewer", ((0, 1), (1, 0))))
        self.assertEqual(decide_price(PRICE_BROKEN[1])[2][0], "more")
        self.assertEqual(decide_price(PRICE_BROKEN[3])[2], ("more", (((1, 1), ((), ())),)))
        for claim in (PRICE_BROKEN[4], PRICE_BROKEN[5]):
            paper = decide_price(claim)[2]
            self.assertEqual((paper[0], len(paper[1])), ("fewer", 1))

    def test_sampled_claims(self):
        verdicts = [self.check_claim(claim)[:2] for claim in CLAIMS]
        for kind in ("cheapest", "lined", "decides"):
            told = [verdict for verdict, claim in verdicts if claim[0] == kind]
            self.assertTrue(min(told.count("shown"), told.count("broken")) >= 30, kind)
        nones = [verdict for verdict, claim in verdicts if claim[0] == "decides" and claim[5] is None]
        self.assertTrue(min(nones.count("shown"), nones.count("broken")) >= 5)

    def test_claims_about_stores_of_up_to_twelve_rows(self):
        for claim in FULL_CLAIMS:
            self.check_claim(claim)

    def test_every_number_around_the_right_one(self):
        for n in range(13):
            self.assertEqual(self.check_claim(CHEAPEST[:5] + (n,))[0], "shown" if n == 3 else "broken")
        for place in ((0, 0), (0, 2), (1, 1)):
            for n in [None] + list(range(13)):
                right = (n is None) if place == (0, 2) else n == 1
                claim = DECIDES[:4] + (place, n)
                self.assertEqual(self.check_claim(claim)[0], "shown" if right else "broken")

    def test_numbers_at_their_bounds(self):
        query, store = grid((12,), ())
        for n in (0, 1, 1187, 1188, 1189, 2000):
            certificate = self.check_claim(("cheapest", query, store, ((99,) * 12,), (), n))
            self.assertEqual(certificate[0], "shown" if n == 1188 else "broken")
        for n in (None, 0, 10, 11, 12):
            certificate = decide_price(("decides", query, store, (), (0, 5), n))
            self.assertEqual(certificate[0], "shown" if n == 11 else "broken")
            self.check_accepted(certificate)
        self.assertEqual(decide_price(("cheapest", query, store, ((0,) * 12,), (), 0))[0], "shown")

    def test_large_claims(self):
        for sizes in ((3, 3, 2, 2, 2), (3, 3, 3, 3), (4, 4, 4), (6, 6), (12,), (4, 2, 2, 2, 2)):
            query, store = grid(sizes, ())
            prices = tuple([tuple([(7 * t + 31 * r + 50) % 100 for r in range(many)]) for t, many in enumerate(sizes)])
            least = min(sum(table) for table in prices)
            for n in (0, least - 1, least, least + 1, 2000):
                certificate = decide_price(("cheapest", query, store, prices, (), n))
                self.assertEqual(certificate[0], "shown" if n == least else "broken")
                self.check_accepted(certificate)
            for place in ((0, 0), (len(sizes) - 1, sizes[-1] - 1)):
                size = sizes[place[0]] - 1
                for n in (None, 0, size, size + 1, 12):
                    certificate = decide_price(("decides", query, store, (), place, n))
                    self.assertEqual(certificate[0], "shown" if n == size else "broken")
                    self.check_accepted(certificate)

    def test_rich_stores(self):
        for query, store in RICH:
            for answer in list(groups(query, store))[:2]:
                prices = tuple([tuple([1 + r for r in range(len(table))]) for table in store])
                for n in range(0, 12, 3):
                    self.check_claim(("cheapest", query, store, prices, answer, n))
                if sum(map(len, store)) <= 9:
                    self.check_claim(("decides", query, store, answer, (0, 0), 2))

    def test_queries_without_a_line(self):
        for query in (TRIANGLE, TRIPOD, STAR, ((), ((0, 1), (1, 2), (2, 3), (3, 4), (4, 0)))):
            verdict, _, paper = self.check_claim(("lined", query))
            self.assertEqual((verdict, len(paper)), ("broken", 5))
            self.assertTrue(all(len(table) <= 12 for table in paper[0]))
        self.assertEqual(self.check_claim(("lined", PATH))[0], "shown")

    def test_claims_are_not_modified(self):
        for claim in PRICE_SHOWN + PRICE_BROKEN:
            before = copy.deepcopy(claim)
            decide_price(claim)
            self.assertEqual(claim, before)
        self.assertEqual(LOOSE_STORE, DECIDES[2])


if __name__ == "__main__":
    unittest.main()
