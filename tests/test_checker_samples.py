"""Tests of viewstrike.checker on sampled papers: what it tells is what the document's table says, word by word."""

import random
import unittest

from tests.claimsamples import BROKEN, SHOWN, is_true, rule_claims, store_claims
from tests.definitions import groups_by_definition
from tests.papersamples import all_parts, changed, part_at, some_strike, some_tree, with_part
from tests.reference import fault_by_document
from viewstrike.checker import first_fault
from viewstrike.claims import decide

RULE_CLAIMS = rule_claims(60, 15)
STORE_CLAIMS = store_claims(70, 8, 16)
HAND_CLAIMS = [claim for claim in SHOWN + BROKEN if claim[0] in ("least", "stay", "goes")]
CLAIMS = list(SHOWN + BROKEN) + RULE_CLAIMS + STORE_CLAIMS


def some_staying_tree(some, groups, wished, kept, levels, spared=frozenset()):
    """Return a staying tree that is not far from right."""
    matches = [match for answer in wished for match in groups[answer]]
    hits = [match for match in matches if set(enumerate(match)) <= spared]
    if levels == 0 or len(kept) == 0 or some.randrange(9) == 0 or hits and some.randrange(2):
        return ("hit", some.choice(hits or matches) if some.randrange(9) else some.choice(matches))
    k = some.randrange(len(kept))
    below = [spared | set(enumerate(match)) for match in groups[kept[k]]]
    return (k, tuple([some_staying_tree(some, groups, wished, kept, levels - 1, rows) for rows in below]))


def some_paper(some, claim, verdict):
    """Return a paper of the right form for a claim about a store."""
    query, store, wished = claim[1:4]
    groups = groups_by_definition(query, store)
    strike = some_strike(some, groups, store, wished)
    tree = some_tree(some, groups, store, wished, 5)
    if claim[0] == "stay":
        return strike if verdict == "shown" else some_staying_tree(some, groups, wished, claim[4], 2)
    if claim[0] == "goes":
        return (strike, tree)
    if verdict == "broken":
        return ("fewer", strike) if claim[5] is None or some.randrange(2) else ("more", tree)
    return tree if claim[5] is None else (strike, tree)


class SampledPapersTest(unittest.TestCase):
    def check(self, verdict, claim, paper):
        fault = fault_by_document(verdict, claim, paper)
        told = first_fault((verdict, claim, paper))
        self.assertEqual((told, str(told)), (fault, str(fault)), (verdict, claim, paper))
        if told is None:
            self.assertEqual(verdict, "shown" if is_true(claim) else "broken", (claim, paper))
        return told

    def test_papers_of_other_claims_never_show_what_is_false(self):
        some = random.Random(17)
        papers = [decide(claim)[2] for claim in CLAIMS]
        for claim in CLAIMS:
            for paper in some.sample(papers, 5):
                for verdict in ("shown", "broken"):
                    self.check(verdict, claim, paper)

    def test_the_other_verdict_with_the_same_paper(self):
        for claim in CLAIMS:
            verdict, _, paper = decide(claim)
            self.assertIsNone(self.check(verdict, claim, paper))
            self.assertIsNotNone(self.check("broken" if verdict == "shown" else "shown", claim, paper))

    def test_changed_papers(self):
        some = random.Random(18)
        told = set()
        for claim in CLAIMS:
            verdict, _, paper = decide(claim)
            for _ in range(12):
                other = paper
                for _ in range(some.choice((1, 1, 1, 2))):
                    path = some.choice(all_parts(other))
                    other = with_part(other, path, changed(some, part_at(other, path), (other, paper)))
                fault = self.check(verdict, claim, other)
                told.add((claim[0], verdict, None if fault is None else fault[0]))
        for kind in ("settles", "joined", "headed", "table", "free", "least", "stay", "goes"):
            for verdict in ("shown", "broken"):
                self.assertIn((kind, verdict, "paper"), told)
                self.assertIn((kind, verdict, None), told)
        for word in (
            "rule", "end", "set", "step", "variable", "part", "store", "answer", "strike", "table", "tree", "loss"
        ):
            self.assertIn(word, {fault for _, _, fault in told})

    def test_papers_of_the_right_form_for_stores(self):
        some = random.Random(19)
        told = set()
        for claim in STORE_CLAIMS + HAND_CLAIMS * 3:
            for verdict in ("shown", "broken"):
                for _ in range(12):
                    fault = self.check(verdict, claim, some_paper(some, claim, verdict))
                    told.add((claim[0], verdict, None if fault is None else fault[0]))
        wanted = {("least", "shown"): "strike kept loss tree", ("least", "broken"): "strike kept loss tree"}
        wanted.update({("stay", "shown"): "strike kept", ("stay", "broken"): "tree"})
        wanted.update({("goes", "shown"): "strike tree", ("goes", "broken"): "strike answer tree"})
        for kind, verdict in wanted:
            for word in wanted[(kind, verdict)].split() + [None]:
                self.assertIn((kind, verdict, word), told)


if __name__ == "__main__":
    unittest.main()
