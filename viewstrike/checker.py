"""The checker of certificates: it follows their papers and searches nothing."""

from viewstrike.claimforms import is_claim
from viewstrike.forms import is_tuple_of
from viewstrike.papers import is_paper
from viewstrike.rules import are_linked, contains_all, open_of, parts_of, reached_by, settled_in, settled_of
from viewstrike.sight import Sight
from viewstrike.singles import single_loss
from viewstrike.stores import does_keep, groups_of, shown_matches
from viewstrike.strikes import loss_of, struck_among, struck_by
from viewstrike.trees import first_failing, first_failing_stay


def first_fault(certificate):
    """Return None for a right certificate, otherwise its first fault."""
    if not is_tuple_of(certificate, 3):
        return ("form",)
    verdict, claim, paper = certificate
    if not is_claim(claim):
        return ("claim",)
    if not is_paper(verdict, claim, paper):
        return ("paper",)
    fault_of = FAULTS[(claim[0], verdict)]
    return fault_of(claim, paper)


def first_unfit(rules, some, chain):
    """Return the first index in the chain of a rule that does not fit for one from some, or None."""
    for index, number in enumerate(chain):
        if not contains_all(reached_by(rules, some, chain[:index]), rules[number][1]):
            return index
    return None


def chain_fault(rules, some, chain, wanted):
    """Return the fault of a chain from some that should reach all of wanted, or None."""
    index = first_unfit(rules, some, chain)
    if index is not None:
        return ("rule", index)
    return None if contains_all(reached_by(rules, some, chain), wanted) else ("end",)


def chain_settles_fault(claim, chain):
    """Return the fault of a paper for settles, shown."""
    _, _, rules, xs, y = claim
    return chain_fault(rules, xs, chain, (y,))


def closed_set_fault(claim, some):
    """Return the fault of a paper for settles, broken."""
    _, _, rules, xs, y = claim
    if not contains_all(some, xs) or y in some:
        return ("set",)
    for number, (_, needed, determined) in enumerate(rules):
        if contains_all(some, needed) and determined not in some:
            return ("rule", number)
    return None


def path_fault(claim, path):
    """Return the fault of a paper for joined, shown."""
    _, query, rules, s, t = claim
    if path[0] != s or path[-1] != t:
        return ("end",)
    for index, (before, after) in enumerate(zip(path, path[1:]), start=1):
        if not are_linked(query, rules, before, after):
            return ("step", index)
    return None


def apart_fault(claim, some):
    """Return the fault of a paper for joined, broken."""
    _, query, rules, s, t = claim
    if s not in some or t in some:
        return ("set",)
    for variable in open_of(query, rules):
        sides = [number in some for number, atom in enumerate(query[1]) if variable in atom]
        if True in sides and False in sides:
            return ("variable", variable)
    return None


def pairs_fault(claim, pairs):
    """Return the fault of a paper for headed, shown."""
    _, query, rules = claim
    for index, part in enumerate(parts_of(query, rules)):
        t, chain = pairs[index]
        if chain_fault(rules, query[1][t], chain, settled_in(query, rules, part)) is not None:
            return ("part", index)
    return None


def chains_fault(claim, chains):
    """Return the fault of a paper for table, shown."""
    _, query, rules, t = claim
    return pairs_fault(("headed", query, rules), [(t, chain) for chain in chains])


def parting_fault(claim, paper):
    """Return the fault of a paper for headed, broken."""
    return parting_fault_for(claim, paper, tuple(range(len(claim[1][1]))))


def table_parting_fault(claim, paper):
    """Return the fault of a paper for table, broken."""
    return parting_fault_for(claim, paper, (claim[3],))


def parting_fault_for(claim, paper, tables):
    """Return the fault of a store, an answer and a strike that should lose less than these tables' single ones."""
    store, answer, strike = paper
    if not does_keep(claim[1], claim[2], store):
        return ("store",)
    shown = shown_matches(claim[1], store)
    if answer not in [other for other, _ in shown]:
        return ("answer",)
    struck = struck_among(shown, strike)
    if answer not in struck:
        return ("strike",)
    for t in tables:
        if len(struck) - 1 >= single_loss(shown, answer, t):
            return ("table", t)
    return None


def free_chain_fault(claim, pair):
    """Return the fault of a paper for free, shown."""
    _, query, rules = claim
    return chain_fault(rules, query[1][pair[0]], pair[1], settled_of(query, rules))


def costly_fault(claim, paper):
    """Return the fault of a paper for free, broken."""
    store, answer, tree = paper
    if not does_keep(claim[1], claim[2], store):
        return ("store",)
    if answer not in [other for other, _ in shown_matches(claim[1], store)]:
        return ("answer",)
    return tree_fault(Sight(claim[1], store, (answer,), ()), 1, tree)


def tree_fault(sight, n, tree):
    """Return the fault of a strike tree that should be right for n."""
    path = first_failing(sight, n, tree)
    return None if path is None else ("tree", path)


def claim_tree_fault(claim, kept, n, tree):
    """Return the fault of a strike tree for the claim's wished answers, these kept ones and n."""
    return tree_fault(Sight(claim[1], claim[2], claim[3], kept), n, tree)


def taking_fault(claim, kept, strike):
    """Return the fault of a strike that should take out the claim's wished answers and strike no kept one."""
    struck = struck_by(claim[1], claim[2], strike)
    if not contains_all(struck, claim[3]):
        return ("strike",)
    for index, answer in enumerate(kept):
        if answer in struck:
            return ("kept", index)
    return None


def least_fault(claim, paper):
    """Return the fault of a paper for least, shown."""
    _, query, store, wished, kept, n = claim
    if n is None:
        return claim_tree_fault(claim, kept, n, paper)
    strike, tree = paper
    fault = taking_fault(claim, kept, strike)
    if fault is not None:
        return fault
    if loss_of(query, store, strike, wished) != n:
        return ("loss",)
    return claim_tree_fault(claim, kept, n, tree)


def other_loss_fault(claim, paper):
    """Return the fault of a paper for least, broken."""
    _, query, store, wished, kept, n = claim
    if paper[0] == "more":
        return claim_tree_fault(claim, kept, n + 1, paper[1])
    fault = taking_fault(claim, kept, paper[1])
    if fault is None and n is not None and loss_of(query, store, paper[1], wished) >= n:
        return ("loss",)
    return fault


def stay_fault(claim, strike):
    """Return the fault of a paper for stay, shown."""
    return taking_fault(claim, claim[4], strike)


def staying_tree_fault(claim, tree):
    """Return the fault of a paper for stay, broken."""
    groups = groups_of(claim[1], claim[2])
    wished = [match for answer in claim[3] for match in groups[answer]]
    path = first_failing_stay(wished, [groups[answer] for answer in claim[4]], tree)
    return None if path is None else ("tree", path)


def goes_fault(claim, paper):
    """Return the fault of a paper for goes, shown."""
    _, query, store, wished, answer = claim
    strike, tree = paper
    fault = taking_fault(claim, (), strike)
    if fault is not None:
        return fault
    return claim_tree_fault(claim, (answer,), loss_of(query, store, strike, wished) + 1, tree)


def goes_not_fault(claim, paper):
    """Return the fault of a paper for goes, broken."""
    _, query, store, wished, answer = claim
    strike, tree = paper
    fault = taking_fault(claim, (), strike)
    if fault is not None:
        return fault
    if answer in struck_by(query, store, strike):
        return ("answer",)
    return claim_tree_fault(claim, (), loss_of(query, store, strike, wished), tree)


FAULTS = {
    ("settles", "shown"): chain_settles_fault,
    ("settles", "broken"): closed_set_fault,
    ("joined", "shown"): path_fault,
    ("joined", "broken"): apart_fault,
    ("headed", "shown"): pairs_fault,
    ("headed", "broken"): parting_fault,
    ("table", "shown"): chains_fault,
    ("table", "broken"): table_parting_fault,
    ("free", "shown"): free_chain_fault,
    ("free", "broken"): costly_fault,
    ("least", "shown"): least_fault,
    ("least", "broken"): other_loss_fault,
    ("stay", "shown"): stay_fault,
    ("stay", "broken"): staying_tree_fault,
    ("goes", "shown"): goes_fault,
    ("goes", "broken"): goes_not_fault,
}
