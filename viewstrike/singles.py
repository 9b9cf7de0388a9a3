"""Single strikes, which strike rows of one table, and the best table for an answer."""

from viewstrike.stores import shown_matches
from viewstrike.strikes import struck_among


def single_strike(query, store, answer, t):
    """Return the single strike of table t for an answer of the view."""
    return single_among(shown_matches(query, store), answer, t)


def single_among(shown, answer, t):
    """Return the strike of those rows of table t that occur in matches of the answer among the shown ones."""
    return tuple([(t, number) for number in sorted({match[t] for other, match in shown if other == answer})])


def single_loss(shown, answer, t):
    """Return the loss of the single strike of table t."""
    struck = struck_among(shown, single_among(shown, answer, t))
    return len([other for other in struck if other != answer])


def single_losses(query, store, answer):
    """Return the tuple of the losses of the single strikes, table by table."""
    shown = shown_matches(query, store)
    return tuple([single_loss(shown, answer, t) for t in range(len(query[1]))])


def best_table(query, store, answer):
    """Return the number of the first table whose single strike has the least loss."""
    losses = single_losses(query, store, answer)
    return losses.index(min(losses))
