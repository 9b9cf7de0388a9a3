"""Least losses, best strikes, and the strike trees that show that no strike loses less."""

from viewstrike.sight import ROOT, Sight


def least_loss(query, store, wished, *, kept=()):
    """Return the least loss for the wished answers beside the kept ones, or None."""
    best = best_place(Sight(query, store, wished, kept))
    return None if best is None else best[0]


def best_strike(query, store, wished, *, kept=()):
    """Return a best strike for the wished answers beside the kept ones, or None."""
    sight = Sight(query, store, wished, kept)
    best = best_place(sight)
    return None if best is None else sight.strike_at(best[1])


def best_place(sight):
    """Return a pair of the least loss and a place whose struck rows are a best strike, or None."""
    return best_below(sight, None, ROOT)


def best_below(sight, n, place):
    """Return the pair of the least loss and a place with it, from this place on, or None if no loss is below n.

    If n is None, any loss is below it.
    """
    if sight.is_end(place, n):
        return None
    chosen = sight.next_match(place)
    if chosen is None:
        return (sight.loss_at(place), place)
    best = None
    for below in sight.below(place, chosen):
        told = None if below is None else best_below(sight, n, below)
        if told is not None:
            best = told
            n = told[0]
    return best


def strike_tree(sight, n):
    """Return a strike tree that is right for n, or None where there is none."""
    return tree_from(sight, n, ROOT)


def tree_from(sight, n, place):
    """Return a tree that is right for n at this place, or None where there is none."""
    if sight.is_end(place, n):
        return ()
    chosen = sight.next_match(place)
    if chosen is None:
        return None
    trees = []
    for below in sight.below(place, chosen):
        tree = None if below is None else tree_from(sight, n, below)
        if below is not None and tree is None:
            return None
        trees.append(tree)
    return (chosen, tuple(trees))
