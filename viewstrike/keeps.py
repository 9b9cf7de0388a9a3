"""What can stay beside wished answers, and what goes surely with them."""

from viewstrike.least import best_strike
from viewstrike.rules import contains_all
from viewstrike.search import best_place
from viewstrike.sight import Sight
from viewstrike.stores import groups_of
from viewstrike.trees import rows_of


def staying_strike(query, store, wished, kept):
    """Return a strike that takes out the wished answers and strikes no kept one, or None."""
    return best_strike(query, store, wished, kept=kept)


def staying_tree(query, store, wished, kept):
    """Return a staying tree that is right, or None if the kept answers can stay."""
    groups = groups_of(query, store)
    wished_matches = [match for answer in wished for match in groups[answer]]
    return stay_from(wished_matches, [groups[answer] for answer in kept], 0, ())


def stay_from(wished, kept, k, spared):
    """Return a right staying tree for these spared rows that goes on with kept answer k, or None."""
    for match in wished:
        if contains_all(spared, rows_of(match)):
            return ("hit", match)
    if k == len(kept):
        return None
    trees = []
    for match in kept[k]:
        tree = stay_from(wished, kept, k + 1, spared + rows_of(match))
        if tree is None:
            return None
        trees.append(tree)
    return (k, tuple(trees))


def surely_gone(query, store, wished):
    """Return the ascending tuple of the answers that go surely with the wished ones."""
    sight = Sight(query, store, wished, ())
    loss, _ = best_place(sight)
    return sight.answers_with(gone_below(sight, loss + 1, sight.root, sight.other_tops))


def gone_below(sight, n, place, gone):
    """Return those tops of gone answers that all strikes with a loss below n, from this place on, strike, too."""
    if gone == 0 or sight.is_end(place, n):
        return gone
    chosen = sight.next_match(place)
    if chosen is None:
        return gone & sight.struck_tops(place)
    for below in sight.below(place, chosen):
        if below is not None:
            gone = gone_below(sight, n, below, gone)
    return gone
