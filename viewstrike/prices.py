"""Prices of rows, the cheapest strikes for an answer, and the trees that show that no strike is cheaper."""

from viewstrike.errors import InvalidPrices
from viewstrike.forms import are_numbers_of, is_tuple_of
from viewstrike.search import best_place, right_tree
from viewstrike.stores import matches_with
from viewstrike.tills import Till
from viewstrike.trees import first_failing, is_strike_tree

PRICES = 100


def require_prices(store, value):
    """Return the value if it is prices for the store; otherwise raise InvalidPrices."""
    if not is_tuple_of(value, len(store)):
        raise InvalidPrices(None)
    for t, table in enumerate(store):
        if not is_tuple_of(value[t], len(table)) or not are_numbers_of(value[t], PRICES):
            raise InvalidPrices(t)
    return value


def is_prices(store, value):
    """Return whether value is prices for the store; halves have the same form."""
    try:
        require_prices(store, value)
    except InvalidPrices:
        return False
    return True


def price_of(prices, strike):
    """Return the price of a strike."""
    return sum([prices[t][number] for t, number in strike])


def till_for(query, store, prices, answer):
    """Return the till that wants the answer's matches, with no row safe."""
    return Till(prices, matches_with(query, store, answer), ())


def cheapest(query, store, prices, answer):
    """Return the cheapest price for an answer of the view."""
    return best_place(till_for(query, store, prices, answer))[0]


def cheapest_strike(query, store, prices, answer):
    """Return a cheapest strike for an answer of the view."""
    till = till_for(query, store, prices, answer)
    return till.strike_at(best_place(till)[1])


def is_price_tree(query, store, prices, answer, n, value):
    """Return whether value has the form of a price tree and is right for the answer and n."""
    if not is_strike_tree(store, value):
        return False
    return first_failing(till_for(query, store, prices, answer), n, value) is None


def price_tree(query, store, prices, answer, n):
    """Return a right price tree for the answer and n, or None if the cheapest price is below n."""
    return right_tree(till_for(query, store, prices, answer), n)
