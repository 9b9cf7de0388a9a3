"""Claims about prices: which ones are valid, and deciding them, each with a certificate."""

from viewstrike.deciding import least_lot_among
from viewstrike.errors import InvalidClaim
from viewstrike.lines import gap_for, line_for
from viewstrike.priceclaimforms import is_price_claim
from viewstrike.prices import till_for
from viewstrike.search import best_place, right_tree
from viewstrike.stores import matches_with
from viewstrike.tills import lot_tills


def require_price_claim(claim):
    """Return the claim if it is a valid one about prices; otherwise raise InvalidClaim."""
    if not is_price_claim(claim):
        raise InvalidClaim()
    return claim


def decide_price(claim):
    """Return a certificate for the claim about prices with the verdict that is true."""
    require_price_claim(claim)
    decide_kind = PRICE_DECIDERS[claim[0]]
    verdict, paper = decide_kind(claim)
    return (verdict, claim, paper)


def decide_cheapest(claim):
    """Return the verdict and paper for a claim "cheapest"."""
    _, query, store, prices, answer, n = claim
    till = till_for(query, store, prices, answer)
    price, place = best_place(till)
    if price < n:
        return ("broken", ("fewer", till.strike_at(place)))
    if price > n:
        return ("broken", ("more", right_tree(till, n + 1)))
    return ("shown", (till.strike_at(place), right_tree(till, n)))


def decide_lined(claim):
    """Return the verdict and paper for a claim "lined"."""
    line = line_for(claim[1])
    return ("broken", gap_for(claim[1])) if line is None else ("shown", line)


def decide_decides(claim):
    """Return the verdict and paper for a claim "decides"."""
    _, query, store, answer, place, n = claim
    matches = matches_with(query, store, answer)
    lot = least_lot_among(store, matches, place)
    if lot is None:
        return ("shown", ()) if n is None else ("broken", ("none",))
    if n is None or len(lot) < n:
        return ("broken", ("fewer", lot))
    tills = lot_tills(store, matches, place)
    if len(lot) > n:
        return ("broken", ("more", tuple([right_tree(till, n + 1) for till in tills])))
    return ("shown", (lot, tuple([right_tree(till, n) for till in tills])))


PRICE_DECIDERS = {"cheapest": decide_cheapest, "lined": decide_lined, "decides": decide_decides}
