"""Strikes: rows that are struck, the answers that are struck by it, and the loss."""

from viewstrike.errors import InvalidStrike
from viewstrike.forms import is_number_of, is_tuple_of
from viewstrike.rules import contains_all
from viewstrike.stores import shown_matches


def require_strike(store, value):
    """Return the value if it is a strike of the store; otherwise raise InvalidStrike."""
    if type(value) is not tuple:
        raise InvalidStrike(None)
    for index, pair in enumerate(value):
        if not is_place(store, pair) or index > 0 and pair <= value[index - 1]:
            raise InvalidStrike(index)
    return value


def is_strike(store, value):
    """Return whether value is a strike of the store."""
    try:
        require_strike(store, value)
    except InvalidStrike:
        return False
    return True


def is_place(store, value):
    """Return whether value is a pair of a table and the number of one of its rows."""
    return is_tuple_of(value, 2) and is_number_of(value[0], len(store)) and is_number_of(value[1], len(store[value[0]]))


def without_rows(store, strike):
    """Return the store without the struck rows."""
    return tuple([
        tuple([row for number, row in enumerate(table) if (t, number) not in strike])
        for t, table in enumerate(store)
    ])


def left_by(shown, strike):
    """Return the list of those pairs of an answer and a match that have no struck row."""
    for t in sorted({table for table, _ in strike}):
        numbers = [number for table, number in strike if table == t]
        shown = [(answer, match) for answer, match in shown if match[t] not in numbers]
    return shown


def struck_among(shown, strike):
    """Return the ascending tuple of those answers that have no match left among the shown ones."""
    left = {answer for answer, _ in left_by(shown, strike)}
    return tuple(sorted({answer for answer, _ in shown if answer not in left}))


def struck_by(query, store, strike):
    """Return the ascending tuple of the struck answers."""
    return struck_among(shown_matches(query, store), strike)


def takes_out(query, store, strike, wished):
    """Return whether the strike takes out the wished answers."""
    return contains_all(struck_by(query, store, strike), wished)


def loss_of(query, store, strike, wished):
    """Return the number of the struck answers that are not wished."""
    return len([answer for answer in struck_by(query, store, strike) if answer not in wished])
