"""Queries and rules to try the functions on, and odd values in their place."""

import random

from viewstrike.stores import view_of

PATH = ((0, 1), ((0, 2), (2, 1)))
KEY = ((0, (0,), 2),)
LONG = ((0, 6), ((0, 1), (1, 2), (2, 3), (3, 4, 5), (5, 6)))
LONG_RULES = ((0, (0,), 1), (4, (6,), 5), (3, (3, 5), 4), (3, (5,), 3))

# Values of all kinds that are neither integers nor tuples of them.
ODD_VALUES = (None, True, False, "", "01", [], [0, 1], {}, {0: 1}, (None,), ("0",), ([],), ((),), [(0,)])


def strict_subset(some, numbers):
    """Return an ascending tuple of some of these numbers."""
    return tuple(sorted(some.sample(sorted(numbers), some.randint(0, len(numbers)))))


def some_atom(some):
    return tuple(some.sample(range(7), some.randint(1, 4)))


def some_query(some):
    atoms = tuple([some_atom(some) for _ in range(some.randint(1, 5))])
    variables = sorted({variable for atom in atoms for variable in atom})
    kind = some.randrange(6)
    head = () if kind == 0 else tuple(variables) if kind == 1 else strict_subset(some, variables)
    return (head, atoms)


def some_rule(some, query):
    t = some.randrange(len(query[1]))
    y = some.choice(query[1][t])
    return (t, strict_subset(some, set(query[1][t]) - {y}), y)


def some_rules(some, query):
    return tuple([some_rule(some, query) for _ in range(some.randint(0, 6))])


def sample_pairs(many):
    """Return many pairs of a query and rules for it, the same ones in every run."""
    some = random.Random(2)
    pairs = [(PATH, ()), (PATH, KEY), (LONG, ()), (LONG, LONG_RULES), ((PATH[0], PATH[1][::-1]), ())]
    while len(pairs) < many:
        query = some_query(some)
        pairs.append((query, some_rules(some, query)))
    return pairs


def some_store(some, query, rows, worths=2):
    """Return a store of the query with at most this many rows in all, and with values below worths."""
    tables = [set() for _ in query[1]]
    for _ in range(30):
        # Rows are made from whole matches, so that there is something to see.
        match = [some.randrange(worths) for _ in range(7)]
        for atom, table in zip(query[1], tables):
            if some.randrange(5) > 0 and sum([len(rows) for rows in tables]) < rows:
                table.add(tuple([match[variable] for variable in atom]))
    return tuple([tuple(sorted(table)[:12]) for table in tables])


def keeping(query, rules, store):
    """Return the store without the rows that break a rule beside the rows before them."""
    tables = [list(table) for table in store]
    for t, table in enumerate(tables):
        kept = []
        for row in table:
            if all(agrees(query, rule, row, other) for rule in rules if rule[0] == t for other in kept):
                kept.append(row)
        tables[t] = tuple(kept)
    return tuple(tables)


def agrees(query, rule, row, other):
    """Return whether two rows of the rule's table keep the rule."""
    t, xs, y = rule
    atom = query[1][t]
    alike = all(row[atom.index(x)] == other[atom.index(x)] for x in xs)
    return not alike or row[atom.index(y)] == other[atom.index(y)]


def sample_stores(many, rows=12, seed=3):
    """Return many triples of a query, rules and a store that keeps them, the same ones in every run."""
    some = random.Random(seed)
    triples = []
    for query, rules in sample_pairs(many):
        store = some_store(some, query, rows, some.choice((2, 2, 3)))
        triples.append((query, rules, keeping(query, rules, store)))
    return triples


def knotty_pairs(many, seed=7):
    """Return many pairs of a query and rules, most of them not headed: short atoms, a head, few rules."""
    some = random.Random(seed)
    pairs = []
    while len(pairs) < many:
        atoms = tuple([tuple(some.sample(range(7), some.choice((2, 2, 2, 3)))) for _ in range(some.randint(2, 5))])
        variables = sorted({variable for atom in atoms for variable in atom})
        head = tuple(sorted(some.sample(variables, some.randint(2, min(4, len(variables))))))
        query = (head, atoms)
        pairs.append((query, tuple([some_rule(some, query) for _ in range(some.randint(0, 3))])))
    return pairs


def some_answers(some, view):
    """Return wished answers and kept answers of a view."""
    wished = tuple(sorted(some.sample(view, some.randint(1, min(3, len(view))))))
    others = [answer for answer in view if answer not in wished]
    return wished, tuple(sorted(some.sample(others, some.randint(0, min(2, len(others))))))


def grid(sizes, head):
    """Return a query whose atoms share no variable, and a store with so many rows in its tables."""
    return (head, tuple([(t,) for t in range(len(sizes))])), tuple([tuple([(k,) for k in range(n)]) for n in sizes])


# Queries and stores in which much can be struck: answers with several matches that share rows.
RICH = (
    (PATH, (((0, 0), (0, 1), (1, 0)), ((0, 0), (1, 0), (1, 1)))),
    (PATH, (((0, 0), (1, 0), (2, 0)), ((0, 0), (0, 1)))),
    (PATH, (((0, 0), (0, 1), (1, 0), (1, 1)), ((0, 0), (0, 1), (1, 0), (1, 1)))),
    (((0,), PATH[1]), (((0, 0), (0, 1), (1, 0), (1, 1), (2, 2)), ((0, 0), (0, 1), (1, 0), (2, 0)))),
    (((1, 3), ((0, 1), (0,), (0, 3))), (((0, 0), (1, 0), (1, 1)), ((0,), (1,)), ((0, 0), (0, 1), (1, 0), (1, 1)))),
    (
        ((0, 3), ((0, 1), (1, 2), (2, 3))),
        (((0, 0), (1, 0), (1, 1)), ((0, 0), (0, 1), (1, 1)), ((0, 0), (1, 0), (1, 1))),
    ),
    (((), ((0, 1), (1, 2))), (((0, 0), (0, 1), (1, 0)), ((0, 0), (1, 0), (1, 1)))),
    grid((3, 3, 3), (0, 1, 2)),
    grid((3, 3, 3), (0, 1)),
    grid((4, 4), (0, 1)),
    grid((2, 2, 2, 2), (0, 2)),
    grid((2, 2, 2, 2, 1), (1, 2, 3)),
    grid((5, 4), (0,)),
)


def situations(many, rows=8, seed=8):
    """Return many (query, store, wished, kept), the same ones in every run; stores have at most so many rows in all."""
    some = random.Random(seed)
    found = []
    stores = [(query, store) for query, store in RICH for _ in range(10)]
    for query, _ in sample_pairs(6 * many) + knotty_pairs(6 * many):
        store = some_store(some, query, rows, some.choice((2, 2, 3)))
        # Stores that show one answer have little to lose; a few of them are enough.
        if len(view_of(query, store)) > some.choice((0, 1, 2, 2, 2)):
            stores.append((query, store))
    for query, store in some.sample(stores, len(stores)):
        found.append((query, store) + some_answers(some, view_of(query, store)))
    return found[:many]
