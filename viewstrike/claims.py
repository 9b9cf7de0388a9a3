"""Claims: which ones are valid, and deciding them, each with a certificate."""

from viewstrike.claimforms import is_claim
from viewstrike.errors import InvalidClaim
from viewstrike.keeps import staying_strike, staying_tree
from viewstrike.partings import costly_store, parting_for, parting_for_table, zeros_of
from viewstrike.rules import are_linked, chain_for, closure_of, parts_of, settled_in, settled_of
from viewstrike.search import best_place, right_tree
from viewstrike.sight import Sight


def require_claim(claim):
    """Return the claim if it is a valid one; otherwise raise InvalidClaim."""
    if not is_claim(claim):
        raise InvalidClaim()
    return claim


def decide(claim):
    """Return a certificate for the claim with the verdict that is true."""
    require_claim(claim)
    decide_kind = DECIDERS[claim[0]]
    verdict, paper = decide_kind(claim)
    return (verdict, claim, paper)


def decide_settles(claim):
    """Return the verdict and paper for a claim "settles"."""
    _, query, rules, xs, y = claim
    chain = chain_for(query, rules, xs, (y,))
    if chain is None:
        return ("broken", closure_of(query, rules, xs))
    return ("shown", chain)


def decide_joined(claim):
    """Return the verdict and paper for a claim "joined"."""
    _, query, rules, s, t = claim
    for part in parts_of(query, rules):
        if s in part and t not in part:
            return ("broken", part)
    return ("shown", path_between(query, rules, s, t))


def path_between(query, rules, s, t):
    """Return a path from atom s to atom t, which is in the same part, with no atom twice."""
    paths = {s: (s,)}
    while t not in paths:
        for last in list(paths):
            for further in range(len(query[1])):
                if further not in paths and are_linked(query, rules, last, further):
                    paths[further] = paths[last] + (further,)
    return paths[t]


def decide_headed(claim):
    """Return the verdict and paper for a claim "headed"."""
    _, query, rules = claim
    parting = parting_for(query, rules)
    if parting is not None:
        return ("broken", parting)
    needed = [settled_in(query, rules, part) for part in parts_of(query, rules)]
    return ("shown", tuple([covering_pair(query, rules, settled) for settled in needed]))


def covering_pair(query, rules, wanted):
    """Return a pair of the first atom whose closure has all of wanted and a chain for it, or None."""
    for t, atom in enumerate(query[1]):
        chain = chain_for(query, rules, atom, wanted)
        if chain is not None:
            return (t, chain)
    return None


def decide_table(claim):
    """Return the verdict and paper for a claim "table"."""
    _, query, rules, t = claim
    parting = parting_for_table(query, rules, t)
    if parting is not None:
        return ("broken", parting)
    needed = [settled_in(query, rules, part) for part in parts_of(query, rules)]
    return ("shown", tuple([chain_for(query, rules, query[1][t], settled) for settled in needed]))


def decide_free(claim):
    """Return the verdict and paper for a claim "free"."""
    _, query, rules = claim
    pair = covering_pair(query, rules, settled_of(query, rules))
    if pair is not None:
        return ("shown", pair)
    store, answer = costly_store(query, rules), zeros_of(query)
    return ("broken", (store, answer, right_tree(Sight(query, store, (answer,), ()), 1)))


def decide_least(claim):
    """Return the verdict and paper for a claim "least"."""
    _, query, store, wished, kept, n = claim
    sight = Sight(query, store, wished, kept)
    best = best_place(sight)
    if best is None:
        return ("shown", right_tree(sight, None)) if n is None else ("broken", ("more", right_tree(sight, n + 1)))
    loss, strike = best[0], sight.strike_at(best[1])
    if n is None or loss < n:
        return ("broken", ("fewer", strike))
    if loss > n:
        return ("broken", ("more", right_tree(sight, n + 1)))
    return ("shown", (strike, right_tree(sight, n)))


def decide_stay(claim):
    """Return the verdict and paper for a claim "stay"."""
    _, query, store, wished, kept = claim
    tree = staying_tree(query, store, wished, kept)
    if tree is not None:
        return ("broken", tree)
    return ("shown", staying_strike(query, store, wished, kept))


def decide_goes(claim):
    """Return the verdict and paper for a claim "goes"."""
    _, query, store, wished, answer = claim
    sight, beside = Sight(query, store, wished, ()), Sight(query, store, wished, (answer,))
    loss, place = best_place(sight)
    # A single answer can always stay: spare the rows of one of its matches and strike all others.
    loss_beside, place_beside = best_place(beside)
    if loss_beside > loss:
        return ("shown", (sight.strike_at(place), right_tree(beside, loss + 1)))
    return ("broken", (beside.strike_at(place_beside), right_tree(sight, loss)))


DECIDERS = {
    "settles": decide_settles,
    "joined": decide_joined,
    "headed": decide_headed,
    "table": decide_table,
    "free": decide_free,
    "least": decide_least,
    "stay": decide_stay,
    "goes": decide_goes,
}
