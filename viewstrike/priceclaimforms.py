"""The forms of claims about prices: what makes such a claim valid."""

from viewstrike.claimforms import has_small_store, is_shown_answer
from viewstrike.forms import is_number_of
from viewstrike.prices import is_prices
from viewstrike.queries import is_query
from viewstrike.strikes import is_place

GREATEST_PRICE = 2000
GREATEST_SIZE = 12


def is_price_claim(value):
    """Return whether value is a valid claim about prices."""
    if type(value) is not tuple or len(value) == 0 or type(value[0]) is not str or value[0] not in PRICE_LENGTHS:
        return False
    is_right = PRICE_CLAIMS[value[0]]
    return len(value) == PRICE_LENGTHS[value[0]] and is_right(value)


def is_cheapest(claim):
    """Return whether the parts of a claim "cheapest" are right."""
    if not has_small_store(claim) or not is_prices(claim[2], claim[3]):
        return False
    return is_shown_answer(claim, claim[4]) and is_number_of(claim[5], GREATEST_PRICE + 1)


def is_lined(claim):
    """Return whether the part of a claim "lined" is right."""
    return is_query(claim[1])


def is_decides(claim):
    """Return whether the parts of a claim "decides" are right."""
    if not has_small_store(claim) or not is_shown_answer(claim, claim[3]) or not is_place(claim[2], claim[4]):
        return False
    return claim[5] is None or is_number_of(claim[5], GREATEST_SIZE + 1)


PRICE_LENGTHS = {"cheapest": 6, "lined": 2, "decides": 6}
PRICE_CLAIMS = {"cheapest": is_cheapest, "lined": is_lined, "decides": is_decides}
