"""Valid claims of all kinds, and their true verdicts by the definitions."""

import functools
import random

from tests.definitions import least_by_definition, losses_by_definition, outcomes_of, surely_gone_by_definition
from tests.reference import closure, needed, parts, settled
from tests.samples import KEY, LONG, LONG_RULES, PATH, knotty_pairs, sample_pairs, situations

SHARED = (((0, 0), (1, 0), (2, 0)), ((0, 0), (0, 1)))
SQUARE = (((0,), (1,)), ((0,), (1,)))
CROSS = ((0, 1), ((0,), (1,)))

# One claim of each kind and verdict, short enough to see that it is right.
SHOWN = (
    ("settles", PATH, KEY, (0,), 2),
    ("settles", PATH, (), (0,), 0),
    ("joined", PATH, (), 0, 1),
    ("joined", PATH, KEY, 1, 1),
    ("headed", PATH, KEY),
    ("table", PATH, ((0, (0,), 2), (0, (2,), 0)), 1),
    ("free", ((0,), PATH[1]), ()),
    ("least", PATH, SHARED, ((0, 0),), (), 1),
    ("least", CROSS, SQUARE, ((0, 0),), ((0, 1), (1, 0)), None),
    ("stay", PATH, SHARED, ((0, 0),), ((0, 1),)),
    ("stay", PATH, SHARED, ((0, 0), (0, 1), (1, 0)), ()),
    ("goes", PATH, SHARED, ((0, 0),), (0, 1)),
)
BROKEN = (
    ("settles", PATH, KEY, (2,), 0),
    ("settles", PATH, (), (), 1),
    ("joined", PATH, KEY, 0, 1),
    ("headed", PATH, ()),
    ("table", PATH, KEY, 0),
    ("free", PATH, KEY),
    ("least", PATH, SHARED, ((0, 0),), (), 0),
    ("least", PATH, SHARED, ((0, 0),), (), 2),
    ("least", PATH, SHARED, ((0, 0),), (), None),
    ("least", CROSS, SQUARE, ((0, 0),), ((0, 1), (1, 0)), 200),
    ("stay", PATH, SHARED, ((0, 0),), ((0, 1), (1, 0))),
    ("goes", PATH, SHARED, ((0, 0),), (1, 0)),
)


@functools.lru_cache(maxsize=None)
def outcomes(query, store):
    return outcomes_of(query, store)


def covers(query, rules, t, part):
    return needed(query, rules, part) <= closure(rules, query[1][t])


def is_true(claim):
    """Return whether a valid claim is true, by the definitions."""
    kind, query, second = claim[:3]
    atoms = range(len(query[1]))
    if kind == "settles":
        return claim[4] in closure(second, claim[3])
    if kind == "joined":
        return any(claim[3] in part and claim[4] in part for part in parts(query, second))
    if kind == "headed":
        return all(any(covers(query, second, t, part) for t in atoms) for part in parts(query, second))
    if kind == "table":
        return all(covers(query, second, claim[3], part) for part in parts(query, second))
    if kind == "free":
        return any(settled(query, second) <= closure(second, query[1][t]) for t in atoms)
    if kind == "least":
        return least_by_definition(outcomes(query, second), claim[3], claim[4]) == claim[5]
    if kind == "stay":
        return len(losses_by_definition(outcomes(query, second), claim[3], claim[4])) > 0
    return claim[4] in surely_gone_by_definition(outcomes(query, second), claim[3])


def rule_claims(many, seed=12):
    """Return claims about sampled queries and rules."""
    some = random.Random(seed)
    claims = []
    for query, rules in sample_pairs(many) + knotty_pairs(many) + [(LONG, LONG_RULES), (LONG, ())]:
        variables = sorted({v for atom in query[1] for v in atom})
        atoms = range(len(query[1]))
        for _ in range(3):
            xs = tuple(sorted(some.sample(variables, some.randint(0, len(variables)))))
            claims.append(("settles", query, rules, xs, some.choice(variables)))
            claims.append(("joined", query, rules, some.choice(atoms), some.choice(atoms)))
        claims.extend([("headed", query, rules), ("table", query, rules, some.choice(atoms)), ("free", query, rules)])
    return claims


def store_claims(many, rows=8, seed=13):
    """Return claims about sampled stores."""
    some = random.Random(seed)
    claims = []
    for query, store, wished, kept in situations(many, rows, seed):
        least = least_by_definition(outcomes(query, store), wished, kept)
        ns = {None, 0, 1, 200, least, some.randint(0, 9)}
        ns |= set() if least is None else {least + 1, max(0, least - 1)}
        claims.extend([("least", query, store, wished, kept, n) for n in sorted(ns, key=str)])
        claims.append(("stay", query, store, wished, kept))
        others = sorted({answer for _, struck in outcomes(query, store) for answer in struck} - set(wished))
        claims.extend([("goes", query, store, wished, answer) for answer in others[:4]])
    return claims
