"""Stores with prices, queries with and without a line, and claims about prices of all kinds."""

import random

from tests.definitions import all_rows, groups_by_definition
from tests.pricereference import cheapest_by_definition, has_line, least_size
from tests.samples import PATH, RICH, grid, sample_pairs, some_store, strict_subset

PAIR = ((0,), ((0, 1), (1,)))
PAIR_STORE = (((4, 5), (4, 6)), ((5,), (6,)))
PAIR_PRICES = ((3, 1), (2, 5))
LOOSE_STORE = (((4, 5), (4, 6), (9, 9)), ((5,), (6,)))
TRIANGLE = ((), ((0, 1), (1, 2), (2, 0)))
TRIPOD = ((), ((0,), (1,), (2,), (0, 1, 2)))
STAR = ((3,), ((0, 3), (1, 3), (2, 3), (0, 1, 2, 3)))


def some_prices(some, store):
    kind = some.randrange(4)
    worths = ((0, 1), (1,), (0, 1, 2, 3, 4, 5), tuple(range(100)))[kind]
    return tuple([tuple([some.choice(worths) for _ in table]) for table in store])


def some_prices_at_the_bounds(store):
    return tuple([tuple([99 if (t + r) % 3 else 0 for r in range(len(table))]) for t, table in enumerate(store)])


def priced(many, rows=8, seed=20):
    """Return many (query, store, prices, answer), the same ones in every run; stores have at most so many rows."""
    some = random.Random(seed)
    stores = [(query, store) for query, store in RICH for _ in range(8)]
    for query, _ in sample_pairs(4 * many):
        store = some_store(some, query, rows, some.choice((2, 2, 3)))
        told = groups_by_definition(query, store)
        # An answer with one match is soon told; a few of them are enough.
        if len(told) > 0 and max(map(len, told.values())) > some.choice((0, 1, 1, 1)):
            stores.append((query, store))
    found = []
    for query, store in some.sample(stores, len(stores)):
        told = groups_by_definition(query, store)
        answer = max(told, key=lambda each: len(told[each])) if some.randrange(2) else some.choice(list(told))
        found.append((query, store, some_prices(some, store), answer))
    return found[:many]


def queries_for_lines(many, seed=21):
    """Return many queries of one to five atoms, about as many with a line as without one."""
    some = random.Random(seed)
    found = [TRIANGLE, TRIPOD, STAR, PATH, ((), PATH[1])]
    while len(found) < many:
        atoms = [tuple(some.sample(range(7), some.choice((1, 2, 2, 2, 3, 3, 4)))) for _ in range(some.randint(1, 5))]
        variables = sorted({v for atom in atoms for v in atom})
        head = strict_subset(some, variables) if some.randrange(3) == 0 else tuple(some.sample(variables, 1))
        query = (some.choice(((), head)), tuple(atoms))
        if not has_line(query) or some.randrange(3) == 0:
            found.append(query)
    return found


def price_claims(many, rows=7, seed=22):
    """Return claims of the kinds "cheapest" and "decides" about sampled stores."""
    some = random.Random(seed)
    claims = []
    for query, store, prices, answer in priced(many, rows, seed):
        least = cheapest_by_definition(query, store, prices, answer)
        for n in sorted({0, least, least + 1, max(0, least - 1), 2000, some.randint(0, 2000)}):
            claims.append(("cheapest", query, store, prices, answer, n))
        for place in some.sample(all_rows(store), min(2, len(all_rows(store)))):
            size = least_size(query, store, answer, place)
            near = set() if size is None else {size, size + 1, max(0, size - 1)}
            for n in [None] + sorted(near | {0, 12, some.randint(0, 12)}):
                claims.append(("decides", query, store, answer, place, n))
    return claims


def line_claims(many, seed=23):
    return [("lined", query) for query in queries_for_lines(many, seed)]


# One claim of each kind and verdict, with each kind of paper, short enough to see that it is right.
PRICE_SHOWN = (
    ("cheapest", PAIR, PAIR_STORE, PAIR_PRICES, (4,), 3),
    ("lined", PAIR),
    ("decides", PAIR, LOOSE_STORE, (4,), (0, 0), 1),
    ("decides", PAIR, LOOSE_STORE, (4,), (0, 2), None),
    ("decides", *grid((3, 3), ()), (), (0, 1), 2),
)
PRICE_BROKEN = (
    ("cheapest", PAIR, PAIR_STORE, PAIR_PRICES, (4,), 4),
    ("cheapest", PAIR, PAIR_STORE, PAIR_PRICES, (4,), 2),
    ("lined", TRIANGLE),
    ("decides", PAIR, LOOSE_STORE, (4,), (0, 0), 0),
    ("decides", PAIR, LOOSE_STORE, (4,), (0, 0), 2),
    ("decides", PAIR, LOOSE_STORE, (4,), (0, 0), None),
    ("decides", PAIR, LOOSE_STORE, (4,), (0, 2), 0),
)
