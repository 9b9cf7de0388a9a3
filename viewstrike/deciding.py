"""Rows that decide an answer: lots, behind which it is in the view and goes with the row."""

from viewstrike.search import best_place
from viewstrike.stores import matches_with, shown_matches
from viewstrike.strikes import is_strike, left_by
from viewstrike.tills import lot_tills


def is_lot(query, store, answer, place, value):
    """Return whether value is a lot for the answer and the row at this place."""
    if not is_strike(store, value):
        return False
    t, number = place
    left = [match for other, match in left_by(shown_matches(query, store), value) if other == answer]
    # If the strike has the row itself, no match that is left has it.
    return len(left) > 0 and all([match[t] == number for match in left])


def least_lot(query, store, answer, place):
    """Return a least lot for the answer and the row at this place, or None if there is none."""
    return least_lot_among(store, matches_with(query, store, answer), place)


def least_lot_among(store, matches, place):
    """Return a least lot for the answer that has these matches, or None."""
    size, lot = None, None
    for till in lot_tills(store, matches, place):
        best = best_place(till, size)
        if best is not None:
            size, lot = best[0], till.strike_at(best[1])
    return lot


def sizes_of(query, store, answer):
    """Return a tuple with, for each table, a tuple with the size of the least lots for each of its rows, or None."""
    matches = matches_with(query, store, answer)
    return tuple([
        tuple([size_among(store, matches, (t, number)) for number in range(len(table))])
        for t, table in enumerate(store)
    ])


def size_among(store, matches, place):
    """Return the size of the least lots for the answer that has these matches and the row at this place, or None."""
    lot = least_lot_among(store, matches, place)
    return None if lot is None else len(lot)
