"""The search for the cheapest way through the places of a tree, and for trees that show that no way is cheaper."""


def best_place(places, n=None):
    """Return a pair of the least cost and a place with it, or None if no cost is below n (None: any is)."""
    return best_below(places, n, places.root)


def best_below(places, n, place):
    """Return the pair of the least cost and a place with it, from this place on, or None if no cost is below n."""
    if places.is_end(place, n):
        return None
    chosen = places.next_match(place)
    if chosen is None:
        return (places.cost_at(place), place)
    best = None
    for below in places.below(place, chosen):
        told = None if below is None else best_below(places, n, below)
        if told is not None:
            best = told
            n = told[0]
    return best


def right_tree(places, n):
    """Return a tree that is right for n, with pairs only where it could not end, or None where there is none."""
    return tree_from(places, n, places.root)


def tree_from(places, n, place):
    """Return a tree that is right for n at this place, or None where there is none."""
    if places.is_end(place, n):
        return ()
    chosen = places.next_match(place)
    if chosen is None:
        return None
    trees = []
    for below in places.below(place, chosen):
        tree = None if below is None else tree_from(places, n, below)
        if below is not None and tree is None:
            return None
        trees.append(tree)
    return (chosen, tuple(trees))
