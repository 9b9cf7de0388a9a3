"""Trees in papers: their forms, and following them to the first place that fails."""

from viewstrike.forms import is_number_of, is_tuple_of
from viewstrike.rules import contains_all

MOST_MATCHES = 12
MOST_INDICES = 2


def is_match_form(store, value):
    """Return whether value is a tuple with the number of a row for each table."""
    if not is_tuple_of(value, len(store)):
        return False
    return all([is_number_of(number, len(table)) for number, table in zip(value, store)])


def is_strike_tree(store, value, most=MOST_MATCHES):
    """Return whether value has the form of a strike tree with at most so many matches on each path."""
    if type(value) is not tuple:
        return False
    if len(value) == 0:
        return True
    if len(value) != 2 or most == 0 or not is_match_form(store, value[0]) or not is_tuple_of(value[1], len(store)):
        return False
    # A loop that ends at the first wrong tree: one that is too deep may be very wide, too.
    for tree in value[1]:
        if tree is not None and not is_strike_tree(store, tree, most - 1):
            return False
    return True


def first_failing(places, n, tree):
    """Return the path to the first place of the strike tree or price tree that fails for n, or None."""
    return failing_from(places, n, tree, places.root)


def failing_from(places, n, tree, place):
    """Return the path from this place to the first one that fails in the tree at it, or None."""
    if len(tree) == 0:
        return None if places.is_end(place, n) else ()
    chosen, trees = tree
    if not places.is_wanted(place, chosen):
        return ()
    further = places.below(place, chosen)
    if [tree is None for tree in trees] != [below is None for below in further]:
        return ()
    for t, below in enumerate(further):
        path = None if below is None else failing_from(places, n, trees[t], below)
        if path is not None:
            return (t,) + path
    return None


def is_staying_tree(store, numbers, value, most=MOST_INDICES):
    """Return whether value has the form of a staying tree; numbers tells how many matches each kept answer has."""
    if not is_tuple_of(value, 2):
        return False
    k, trees = value
    if type(k) is str:
        return k == "hit" and is_match_form(store, trees)
    if most == 0 or not is_number_of(k, len(numbers)) or not is_tuple_of(trees, numbers[k]):
        return False
    for tree in trees:
        if not is_staying_tree(store, numbers, tree, most - 1):
            return False
    return True


def rows_of(match):
    """Return the tuple of pairs of a table and the number of the match's row there."""
    return tuple(enumerate(match))


def first_failing_stay(wished, kept, tree, spared=()):
    """Return the path to the first place of the staying tree that fails, or None.

    wished has the matches of the wished answers, kept a tuple of matches for each kept answer.
    """
    k, trees = tree
    if k == "hit":
        return None if trees in wished and contains_all(spared, rows_of(trees)) else ()
    for index, match in enumerate(kept[k]):
        path = first_failing_stay(wished, kept, trees[index], spared + rows_of(match))
        if path is not None:
            return (index,) + path
    return None
