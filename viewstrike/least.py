"""Least losses and best strikes, for wished answers beside kept ones."""

from viewstrike.search import best_place
from viewstrike.sight import Sight


def least_loss(query, store, wished, *, kept=()):
    """Return the least loss for the wished answers beside the kept ones, or None."""
    best = best_place(Sight(query, store, wished, kept))
    return None if best is None else best[0]


def best_strike(query, store, wished, *, kept=()):
    """Return a best strike for the wished answers beside the kept ones, or None."""
    sight = Sight(query, store, wished, kept)
    best = best_place(sight)
    return None if best is None else sight.strike_at(best[1])
