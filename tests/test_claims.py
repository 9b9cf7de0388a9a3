"""Tests of viewstrike.claims: require_claim, decide."""

import copy
import unittest

from tests.claimsamples import BROKEN, CROSS, SHARED, SHOWN, SQUARE, is_true, rule_claims, store_claims
from tests.definitions import groups_by_definition
from tests.reference import fault_by_document, staying_path, tree_path
from tests.samples import KEY, LONG, LONG_RULES, PATH, grid
from viewstrike.checker import first_fault
from viewstrike.claims import decide, require_claim
from viewstrike.errors import InvalidClaim

RULE_CLAIMS = rule_claims(120)
STORE_CLAIMS = store_claims(150)
FULL_CLAIMS = store_claims(8, 12, 14)
NO_VALUES = (None, True, False, 0, 1, -1, "", "headed", [], {}, (), ((),), [0], {0: 1}, (None,), ("settles",))


def deep(levels):
    value = ()
    for _ in range(levels):
        value = (value,)
    return value


class RequireClaimTest(unittest.TestCase):
    def check_wrong(self, value):
        before = copy.deepcopy(value)
        for function in (require_claim, decide):
            with self.assertRaises(InvalidClaim) as caught:
                function(value)
            self.assertIsInstance(caught.exception, ValueError)
        self.assertEqual(first_fault(("shown", value, ())), ("claim",))
        self.assertEqual(value, before)

    def check_wrong_part(self, claim, index, values):
        for value in values:
            self.check_wrong(claim[:index] + (value,) + claim[index + 1 :])

    def test_valid_claims_come_back_as_they_are(self):
        for claim in SHOWN + BROKEN:
            self.assertIs(require_claim(claim), claim)
            self.assertIs(require_claim(claim=claim), claim)

    def test_sampled_claims_come_back(self):
        for claim in RULE_CLAIMS + STORE_CLAIMS:
            self.assertIs(require_claim(claim), claim)

    def test_what_is_no_tuple_that_begins_with_a_kind(self):
        for value in NO_VALUES + (
            7, "settles", list(SHOWN[0]), {0: "headed", 1: PATH, 2: ()}, deep(97), (0,) * 1000000
        ):
            self.check_wrong(value)

    def test_kinds_that_are_none(self):
        for claim in SHOWN + BROKEN:
            words = ("", "Headed", "headed ", "settle", "settled", "shown", "broken", "cheapest", "lined", "decides")
            self.check_wrong_part(claim, 0, words + (None, True, 0, ("headed",), ["headed"], b"headed", {}, ()))

    def test_kinds_in_place_of_one_another(self):
        # Claims "headed" and "free" have the same parts.
        for claim in (("settles", PATH, KEY, 0, 1), ("joined", PATH, KEY, (0,), 1), ("stay", PATH, KEY, 0, 1)):
            self.check_wrong(claim)
        for word in ("settles", "joined", "headed", "free", "least", "stay", "goes"):
            self.check_wrong((word, PATH, KEY, 0))
        for word in ("settles", "joined", "table", "least", "stay", "goes"):
            self.check_wrong((word, PATH, KEY))

    def test_parts_too_many_or_too_few(self):
        for claim in SHOWN + BROKEN:
            self.check_wrong(claim[:-1])
            self.check_wrong(claim + (None,))
            self.check_wrong(claim + claim[-1:])
            self.check_wrong(claim[:1])
            self.check_wrong(claim[1:])

    def test_queries(self):
        for claim in SHOWN + BROKEN:
            wrong = ((PATH[0], PATH[1], ()), list(PATH), (PATH[0], list(PATH[1])), ((0, 6), PATH[1]), ((), ()))
            self.check_wrong_part(claim, 1, NO_VALUES + wrong + ((PATH[0], PATH[1] * 3), ((False, 1), PATH[1])))

    def test_rules(self):
        for claim in [told for told in SHOWN + BROKEN if told[0] not in ("least", "stay", "goes")]:
            wrong = [value for value in NO_VALUES if value != ()]
            wrong += [list(KEY), KEY * 7, ((0, [0], 2),), ((0, (0,), 5),), ((False, (0,), 2),), ((5, (0,), 2),)]
            self.check_wrong_part(claim, 2, wrong)

    def test_stores(self):
        for claim in [told for told in SHOWN + BROKEN if told[0] in ("least", "stay", "goes")]:
            wrong = (
                list(SHARED), SHARED + ((),), SHARED[:1], (SHARED[0], list(SHARED[1])), (SHARED[0], ((0, 1), (0, 0)))
            )
            more = (((0, 1000),), SHARED[1]), (((True, 0),), SHARED[1]), (((0,),), ((0, 0),))
            self.check_wrong_part(claim, 2, NO_VALUES + wrong + more)

    def test_twelve_and_thirteen_rows_in_all_tables(self):
        for sizes, right in (((6, 6), True), ((12, 0), True), ((1, 11), True), ((7, 6), False), ((12, 1), False)):
            query, store = grid(sizes, (0,))
            if min(sizes) > 0:
                for claim in (
                    ("least", query, store, ((0,),), (), 0),
                    ("stay", query, store, ((0,),), ()),
                    ("goes", (CROSS[0], query[1]), store, ((0, 0),), (0, 1)) if sizes[1] > 1 else None,
                ):
                    if claim is not None and right:
                        self.assertIs(require_claim(claim), claim)
                    elif claim is not None:
                        self.check_wrong(claim)
        query, store = grid((12,), (0,))
        self.assertIs(decide(("least", query, store, ((0,),), ((3,), (11,)), 0))[0], "shown")
        query, store = grid((13,), (0,))
        self.check_wrong(("least", query, store, ((0,),), (), 0))

    def test_variables(self):
        claim = ("settles", PATH, KEY, (0,), 2)
        wrong = (
            None, True, 0, "0", [], [0], {}, (1, 0), (0, 0), (3,), (-1,), (0, 3), (7,), (True,), (False, 1), ("0",),
            ((),),
        )
        self.check_wrong_part(claim, 3, wrong + ((None,), (0, 1, 2, 3), deep(90), (0,) * 100000))
        self.check_wrong_part(claim, 4, (None, True, False, "0", [], {}, (), (0,), -1, 3, 7, 10**40))
        query = ((), ((4, 2), (2, 6)))
        self.assertEqual(decide(("settles", query, (), (2, 6), 6))[0], "shown")
        for variable in (0, 1, 3, 5):
            self.check_wrong(("settles", query, (), (2, 6), variable))
            self.check_wrong(("settles", query, (), (variable,), 2))

    def test_numbers_of_atoms(self):
        wrong = (None, True, False, "0", [], {}, (), (0,), -1, 2, 3, 10**40)
        self.check_wrong_part(("joined", PATH, (), 0, 1), 3, wrong)
        self.check_wrong_part(("joined", PATH, (), 0, 1), 4, wrong)
        self.check_wrong_part(("table", PATH, (), 0), 3, wrong)

    def test_wished_answers(self):
        view = ((0, 0), (0, 1), (1, 0), (1, 1))
        wrong = (
            None, True, 0, "00", [], [(0, 0)], {}, {(0, 0): 1}, (), (0, 0), ((1, 0), (0, 0)), ((0, 0), (0, 0)), view
        )
        odd = (
            None, True, 0, (), (0,), (0, 0, 0), [0, 0], (2, 0), (0, False), (False, 0), (0, None), ("0", "0"), (0, -1)
        )
        for claim in (
            ("least", CROSS, SQUARE, ((0, 0),), (), 0),
            ("stay", CROSS, SQUARE, ((0, 0),), ()),
            ("goes", CROSS, SQUARE, ((0, 0),), (1, 1)),
        ):
            self.check_wrong_part(claim, 3, wrong + tuple([(answer,) for answer in odd]))
            self.check_wrong_part(claim, 3, tuple([((0, 0), answer) for answer in odd]))
            for wished in (view[:1], view[1:2], view[:2], view[:3]):
                self.assertEqual(require_claim(claim[:3] + (wished,) + claim[4:])[3], wished)
        self.check_wrong(("least", CROSS, ((), ()), ((0, 0),), (), 0))
        self.check_wrong(("stay", PATH, SHARED, ((0, 2),), ()))

    def test_kept_answers(self):
        view = ((0, 0), (0, 1), (1, 0), (1, 1))
        wrong = (None, True, 0, "00", [], [(0, 1)], {}, (0, 1), ((1, 0), (0, 1)), ((0, 1), (0, 1)), view[1:])
        odd = (
            None, True, 0, (), (0,), (0, 1, 0), [0, 1], (2, 0), (0, True), (True, 0), (0, None), ("0", "1"), (0, -1),
            (0, 0),
        )
        for claim in (("least", CROSS, SQUARE, ((0, 0),), (), 0), ("stay", CROSS, SQUARE, ((0, 0),), ())):
            self.check_wrong_part(claim, 4, wrong + tuple([(answer,) for answer in odd]))
            self.check_wrong_part(claim, 4, tuple([((0, 1), answer) for answer in odd]))
            for kept in ((), view[1:2], view[1:3], view[2:]):
                self.assertEqual(require_claim(claim[:4] + (kept,) + claim[5:])[4], kept)
            self.check_wrong(claim[:3] + (view[:2], view[1:2]) + claim[5:])
            self.check_wrong(claim[:3] + (view[:2], view[1:3]) + claim[5:])

    def test_the_answer_that_goes(self):
        odd = (None, True, 0, (), (0,), (0, 1, 0), [0, 1], (2, 0), (0, True), (True, 0), (0, None), ("0", "1"), (0, -1))
        self.check_wrong_part(("goes", CROSS, SQUARE, ((0, 0),), (0, 1)), 4, odd + ((0, 0), ((0, 1),)))
        self.check_wrong(("goes", CROSS, SQUARE, ((0, 0), (0, 1)), (0, 1)))

    def test_an_answer_without_values(self):
        query = ((), PATH[1])
        self.assertEqual(require_claim(("stay", query, SHARED, ((),), ()))[3], ((),))
        self.check_wrong(("stay", query, SHARED, ((),), ((),)))
        self.check_wrong(("goes", query, SHARED, ((),), ()))
        self.check_wrong(("stay", query, ((), ()), ((),), ()))

    def test_n(self):
        for n in (0, 1, 199, 200, None):
            claim = ("least", CROSS, SQUARE, ((0, 0),), (), n)
            self.assertIs(require_claim(claim), claim)
        wrong = (-1, 201, 10**40, True, False, "0", "1", [], {}, (), (1,))
        self.check_wrong_part(("least", CROSS, SQUARE, ((0, 0),), (), 1), 5, wrong)

    def test_what_calls_returned(self):
        for claim in SHOWN + BROKEN:
            self.check_wrong(decide(claim))
            self.check_wrong((claim,) + claim[1:])
            self.check_wrong(claim[:1] + (claim,) + claim[2:])


class DecideTest(unittest.TestCase):
    def check_claim(self, claim):
        certificate = decide(claim)
        self.assertIs(type(certificate), tuple)
        verdict, told, paper = certificate
        self.assertEqual(told, claim)
        self.assertEqual(verdict, "shown" if is_true(claim) else "broken", claim)
        self.assertIsNone(first_fault(certificate), claim)
        self.assertIsNone(fault_by_document(verdict, claim, paper), claim)
        other = "broken" if verdict == "shown" else "shown"
        self.assertIsNotNone(first_fault((other, claim, paper)))
        self.check_paper(verdict, claim, paper)
        return certificate

    def check_paper(self, verdict, claim, paper):
        """Check what the document says of the papers that decide returns."""
        kind, word = claim[0], claim[0] + " " + verdict
        if kind in ("settles", "joined", "headed", "table", "free"):
            if verdict == "broken" and kind in ("headed", "table", "free"):
                groups = groups_by_definition(claim[1], paper[0])
                self.assertTrue(sum(map(len, groups.values())) <= (40 if kind == "free" else 12))
                if kind == "free":
                    self.check_tree(claim[1], paper[0], (paper[1],), (), 1, paper[2])
            for chain in {"settles shown": [paper], "table shown": paper, "free shown": paper[1:]}.get(word, []):
                self.assertEqual(len(set(chain)), len(chain))
            if word == "headed shown":
                self.assertTrue(all(len(set(chain)) == len(chain) for _, chain in paper))
        elif kind == "stay" and verdict == "broken":
            self.check_staying(groups_by_definition(*claim[1:3]), claim[3], claim[4], paper, frozenset(), ())
        elif kind == "least":
            n = claim[5]
            if verdict == "shown":
                self.check_tree(*claim[1:5], n, paper if n is None else paper[1])
            elif paper[0] == "more":
                self.check_tree(*claim[1:5], n + 1, paper[1])
        elif kind == "goes":
            groups = groups_by_definition(*claim[1:3])
            rows = set(paper[0])
            loss = len([a for a in groups if a not in claim[3] and all(rows & set(enumerate(m)) for m in groups[a])])
            kept, n = ((claim[4],), loss + 1) if verdict == "shown" else ((), loss)
            self.check_tree(*claim[1:4], kept, n, paper[1])

    def check_tree(self, query, store, wished, kept, n, tree):
        """Check that it has a pair only at places at which () would fail."""
        groups = groups_by_definition(query, store)
        places = [(tree, frozenset(), frozenset())]
        while places:
            tree, struck, spared = places.pop()
            if tree != ():
                self.assertEqual(tree_path(groups, store, wished, kept, n, (), struck, spared), ())
                rows = list(enumerate(tree[0]))
                for t, below in enumerate(tree[1]):
                    if below is not None:
                        places.append((below, struck | {rows[t]}, spared | set(rows[:t])))

    def check_staying(self, groups, wished, kept, tree, spared, above):
        """Check that it has a pair only where no hit would be right, and no index twice on a path."""
        k, trees = tree
        if k != "hit":
            self.assertNotIn(k, above)
            for answer in wished:
                for match in groups[answer]:
                    self.assertEqual(staying_path(groups, wished, kept, ("hit", match), spared), ())
            for below, match in zip(trees, groups[kept[k]]):
                self.check_staying(groups, wished, kept, below, spared | set(enumerate(match)), above + (k,))

    def test_example_of_the_interface(self):
        told = decide(("settles", PATH, KEY, (0,), 2))
        told = (told[0], told[2], first_fault(told), first_fault(("broken",) + told[1:]))
        self.assertEqual(told, ("shown", (0,), None, ("rule", 0)))

    def test_each_kind_and_verdict(self):
        for verdict, claims in (("shown", SHOWN), ("broken", BROKEN)):
            for claim in claims:
                self.assertEqual(self.check_claim(claim)[0], verdict)
                self.assertEqual(decide(claim=claim), decide(claim))

    def test_papers_that_can_only_be_one(self):
        self.assertEqual(decide(("settles", PATH, (), (0,), 0))[2], ())
        self.assertEqual(decide(("joined", PATH, KEY, 1, 1))[2], (1,))
        self.assertEqual(decide(("joined", PATH, (), 0, 1))[2], (0, 1))
        self.assertEqual(decide(("joined", PATH, KEY, 0, 1))[2], (0,))
        self.assertEqual(decide(("headed", PATH, KEY))[2], ((0, ()), (1, ())))
        self.assertEqual(decide(("least", PATH, SHARED, ((0, 0),), (), 0))[2], ("more", ((0, 0), ((), ()))))
        self.assertEqual(decide(("stay", PATH, SHARED, ((0, 0),), ((0, 1),)))[2], ((1, 0),))

    def test_a_long_path_and_long_chains(self):
        self.assertEqual(self.check_claim(("joined", LONG, (), 0, 4))[2], (0, 1, 2, 3, 4))
        self.assertEqual(self.check_claim(("joined", LONG, (), 4, 1))[2], (4, 3, 2, 1))
        self.assertEqual(self.check_claim(("settles", LONG, LONG_RULES, (6,), 4))[2], (1, 3, 2))

    def test_claims_about_rules(self):
        verdicts = [self.check_claim(claim)[:2] for claim in RULE_CLAIMS]
        for kind in ("settles", "joined", "headed", "table", "free"):
            told = [verdict for verdict, claim in verdicts if claim[0] == kind]
            self.assertTrue(min(told.count("shown"), told.count("broken")) >= 10, kind)

    def test_claims_about_stores(self):
        verdicts = [self.check_claim(claim)[:2] for claim in STORE_CLAIMS]
        for kind in ("least", "stay", "goes"):
            told = [verdict for verdict, claim in verdicts if claim[0] == kind]
            self.assertTrue(min(told.count("shown"), told.count("broken")) >= 5, kind)

    def test_claims_about_stores_of_up_to_twelve_rows(self):
        for claim in FULL_CLAIMS:
            self.check_claim(claim)

    def test_large_claims(self):
        for sizes in ((3, 3, 2, 2, 2), (3, 3, 3, 3), (4, 4, 4), (6, 6), (12,)):
            for head in ((), (0,), tuple(range(len(sizes)))):
                query, store = grid(sizes, head)
                view = tuple(groups_by_definition(query, store))
                wished, kept = view[: max(1, min(3, len(view) - 2))], view[len(view) - 2 :] if len(view) > 5 else ()
                for n in (None, 0, 5, 60, 200):
                    claim = ("least", query, store, wished, kept, n)
                    certificate = decide(claim)
                    self.assertIsNone(first_fault(certificate))
                self.assertIsNone(first_fault(decide(("stay", query, store, wished, kept))))
                if len(view) > len(wished):
                    self.assertIsNone(first_fault(decide(("goes", query, store, wished, view[-1]))))

    def test_claims_are_not_modified(self):
        # A claim is all tuples; a copy that stays equal shows that nothing in it was changed.
        for claim in SHOWN + BROKEN:
            before = copy.deepcopy(claim)
            decide(claim)
            self.assertEqual(claim, before)


if __name__ == "__main__":
    unittest.main()
