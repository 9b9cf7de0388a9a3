"""Queries and rules to try the functions on, and odd values in their place."""

import random

PATH = ((0, 1), ((0, 2), (2, 1)))
KEY = ((0, (0,), 2),)
LONG = ((0, 6), ((0, 1), (1, 2), (2, 3), (3, 4, 5), (5, 6)))
LONG_RULES = ((0, (0,), 1), (4, (6,), 5), (3, (3, 5), 4), (3, (5,), 3))

# Values of all kinds that are neither integers nor tuples of them.
ODD_VALUES = (None, True, False, "", "01", [], [0, 1], {}, {0: 1}, (None,), ("0",), ([],), ((),), [(0,)])


def strict_subset(some, numbers):
    """Return an ascending tuple of some of these numbers."""
    return tuple(sorted(some.sample(sorted(numbers), some.randint(0, len(numbers)))))


def some_atom(some):
    return tuple(some.sample(range(7), some.randint(1, 4)))


def some_query(some):
    atoms = tuple([some_atom(some) for _ in range(some.randint(1, 5))])
    variables = sorted({variable for atom in atoms for variable in atom})
    kind = some.randrange(6)
    head = () if kind == 0 else tuple(variables) if kind == 1 else strict_subset(some, variables)
    return (head, atoms)


def some_rule(some, query):
    t = some.randrange(len(query[1]))
    y = some.choice(query[1][t])
    return (t, strict_subset(some, set(query[1][t]) - {y}), y)


def some_rules(some, query):
    return tuple([some_rule(some, query) for _ in range(some.randint(0, 6))])


def sample_pairs(many):
    """Return many pairs of a query and rules for it, the same ones in every run."""
    some = random.Random(2)
    pairs = [(PATH, ()), (PATH, KEY), (LONG, ()), (LONG, LONG_RULES), ((PATH[0], PATH[1][::-1]), ())]
    while len(pairs) < many:
        query = some_query(some)
        pairs.append((query, some_rules(some, query)))
    return pairs
