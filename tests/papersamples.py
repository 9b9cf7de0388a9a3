"""Ways to change papers, and papers that are not far from right."""

from tests.definitions import all_rows


def all_parts(value, path=()):
    """Return the paths to all parts of nested tuples."""
    paths = [path]
    if type(value) is tuple:
        for index, part in enumerate(value):
            paths += all_parts(part, path + (index,))
    return paths


def part_at(value, path):
    for index in path:
        value = value[index]
    return value


def with_part(value, path, part):
    if path == ():
        return part
    return value[: path[0]] + (with_part(value[path[0]], path[1:], part),) + value[path[0] + 1 :]


def changed(some, part, others):
    """Return the part with a small change, or another value in its place."""
    ways = [None, True, [], (), "hit", part, some.choice(others), (part,), part_at(others[0], ())]
    if type(part) is int:
        ways += [part + 1, part - 1, part + 1, part - 1, bool(part), str(part)]
    if type(part) is tuple and len(part) > 0:
        k = some.randrange(len(part))
        ways += [part[:k] + part[k + 1 :], part[:k] + part[k : k + 1] + part[k:], part[::-1], list(part), part[k]]
        ways += [tuple(some.sample(part, len(part)))] * 2
    return some.choice(ways)


def some_tree(some, groups, store, wished, levels, spared=frozenset()):
    """Return a strike tree that is not far from right."""
    if levels == 0 or some.randrange(3) == 0:
        return ()
    answers = wished if some.randrange(12) else tuple(groups)
    match = some.choice(groups[some.choice(answers)])
    rows = list(enumerate(match))
    trees = []
    for t, row in enumerate(rows):
        absent = row in spared if some.randrange(30) else some.randrange(2) == 0
        below = spared | set(rows[:t])
        trees.append(None if absent else some_tree(some, groups, store, wished, levels - 1, below))
    return (match, tuple(trees))


def some_strike(some, groups, store, wished):
    """Return a strike, most times one that takes out the wished answers."""
    if some.randrange(4) == 0:
        rows = all_rows(store)
        return tuple(sorted(some.sample(rows, some.randint(0, len(rows)))))
    matches = [match for answer in wished for match in groups[answer]]
    return tuple(sorted({some.choice(list(enumerate(match))) for match in matches}))
