"""The checker of certificates about prices: it follows their papers and searches nothing."""

from viewstrike.deciding import is_lot
from viewstrike.forms import is_tuple_of
from viewstrike.lines import first_scattered, number_above
from viewstrike.priceclaimforms import is_price_claim
from viewstrike.pricepapers import is_price_paper
from viewstrike.prices import price_of, till_for
from viewstrike.stores import is_shown, matches_with
from viewstrike.strikes import takes_out
from viewstrike.tills import lot_tills
from viewstrike.trees import first_failing


def first_price_fault(certificate):
    """Return None for a right certificate about prices, otherwise its first fault."""
    if not is_tuple_of(certificate, 3):
        return ("form",)
    verdict, claim, paper = certificate
    if not is_price_claim(claim):
        return ("claim",)
    if not is_price_paper(verdict, claim, paper):
        return ("paper",)
    fault_of = PRICE_FAULTS[(claim[0], verdict)]
    return fault_of(claim, paper)


def price_tree_fault(claim, n, tree):
    """Return the fault of a price tree that should be right for the claim's answer and n."""
    _, query, store, prices, answer, _ = claim
    path = first_failing(till_for(query, store, prices, answer), n, tree)
    return None if path is None else ("tree", path)


def takes_answer(claim, strike):
    """Return whether the strike takes out the answer of a claim "cheapest"."""
    return takes_out(claim[1], claim[2], strike, (claim[4],))


def cheapest_fault(claim, paper):
    """Return the fault of a paper for cheapest, shown."""
    strike, tree = paper
    if not takes_answer(claim, strike):
        return ("strike",)
    if price_of(claim[3], strike) != claim[5]:
        return ("price",)
    return price_tree_fault(claim, claim[5], tree)


def other_price_fault(claim, paper):
    """Return the fault of a paper for cheapest, broken."""
    word, told = paper
    if word == "more":
        return price_tree_fault(claim, claim[5] + 1, told)
    if not takes_answer(claim, told):
        return ("strike",)
    return None if price_of(claim[3], told) < claim[5] else ("price",)


def order_fault(claim, order):
    """Return the fault of a paper for lined, shown."""
    variable = first_scattered(claim[1], order)
    return None if variable is None else ("variable", variable)


def gap_fault(claim, paper):
    """Return the fault of a paper for lined, broken."""
    query = claim[1]
    store, prices, answer, halves, tree = paper
    if not is_shown(query, store, answer):
        return ("answer",)
    for match in matches_with(query, store, answer):
        if sum([row[number] for row, number in zip(halves, match)]) < 2:
            return ("match", match)
    path = first_failing(till_for(query, store, prices, answer), number_above(prices, halves), tree)
    return None if path is None else ("tree", path)


def lot_fault(claim, paper):
    """Return the fault of a paper for decides, shown."""
    n = claim[5]
    if n is None:
        return no_lot_fault(claim)
    strike, trees = paper
    if not is_claimed_lot(claim, strike):
        return ("lot",)
    if len(strike) != n:
        return ("size",)
    return lot_trees_fault(claim, n, trees)


def other_lot_fault(claim, paper):
    """Return the fault of a paper for decides, broken."""
    n = claim[5]
    if paper[0] == "none":
        return no_lot_fault(claim)
    if paper[0] == "more":
        return lot_trees_fault(claim, n + 1, paper[1])
    if not is_claimed_lot(claim, paper[1]):
        return ("lot",)
    return ("size",) if n is not None and len(paper[1]) >= n else None


def is_claimed_lot(claim, strike):
    """Return whether the strike is a lot for the answer and the row of a claim "decides"."""
    _, query, store, answer, place, _ = claim
    return is_lot(query, store, answer, place, strike)


def no_lot_fault(claim):
    """Return the fault of saying that the row stands in no match of the answer."""
    _, query, store, answer, place, _ = claim
    with_row = [match for match in matches_with(query, store, answer) if match[place[0]] == place[1]]
    return ("match",) if len(with_row) > 0 else None


def lot_trees_fault(claim, n, trees):
    """Return the fault of the price trees that should show that no lot has fewer than n rows."""
    _, query, store, answer, place, _ = claim
    for index, till in enumerate(lot_tills(store, matches_with(query, store, answer), place)):
        path = first_failing(till, n, trees[index])
        if path is not None:
            return ("tree", index, path)
    return None


PRICE_FAULTS = {
    ("cheapest", "shown"): cheapest_fault,
    ("cheapest", "broken"): other_price_fault,
    ("lined", "shown"): order_fault,
    ("lined", "broken"): gap_fault,
    ("decides", "shown"): lot_fault,
    ("decides", "broken"): other_lot_fault,
}
