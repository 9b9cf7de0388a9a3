"""The document's definitions, written down as plainly as possible, to compare the program with."""

import itertools


def all_rows(store):
    """Return all pairs of a table and the number of one of its rows."""
    return [(t, number) for t, table in enumerate(store) for number in range(len(table))]


def all_strikes(store):
    rows = all_rows(store)
    return [strike for many in range(len(rows) + 1) for strike in itertools.combinations(rows, many)]


def worths_of(query, store, match):
    """Return the dict of the match's values by variables, or None where its rows do not agree."""
    worths = {}
    for atom, table, number in zip(query[1], store, match):
        for variable, worth in zip(atom, table[number]):
            if worths.setdefault(variable, worth) != worth:
                return None
    return worths


def matches_by_definition(query, store):
    every = itertools.product(*[range(len(table)) for table in store])
    return tuple(match for match in every if worths_of(query, store, match) is not None)


def answer_by_definition(query, store, match):
    worths = worths_of(query, store, match)
    return tuple(worths[variable] for variable in query[0])


def groups_by_definition(query, store):
    """Return the dict of the lists of matches by their answers, in ascending order."""
    groups = {}
    for match in matches_by_definition(query, store):
        groups.setdefault(answer_by_definition(query, store, match), []).append(match)
    return {answer: groups[answer] for answer in sorted(groups)}


def has_struck_row(match, strike):
    return any((t, number) in strike for t, number in enumerate(match))


def struck_by_definition(groups, strike):
    return tuple(
        answer for answer, matches in groups.items() if all(has_struck_row(match, strike) for match in matches)
    )


def loss_by_definition(groups, strike, wished):
    return len([answer for answer in struck_by_definition(groups, strike) if answer not in wished])


def takes_out_by_definition(groups, strike, wished):
    return set(wished) <= set(struck_by_definition(groups, strike))


def single_by_definition(groups, answer, t):
    return tuple(sorted({(t, match[t]) for match in groups[answer]}))


def keeps_by_definition(query, rules, store):
    for t, xs, y in rules:
        atom = query[1][t]
        for one, other in itertools.combinations(store[t], 2):
            agree = all(one[atom.index(x)] == other[atom.index(x)] for x in xs)
            if agree and one[atom.index(y)] != other[atom.index(y)]:
                return False
    return True


def has_store_form(query, store):
    """Return whether it is a store of the query as the document describes it."""
    if type(store) is not tuple or len(store) != len(query[1]):
        return False
    for atom, table in zip(query[1], store):
        if type(table) is not tuple or len(table) > 12:
            return False
        for row in table:
            if type(row) is not tuple or len(row) != len(atom):
                return False
            if any(type(worth) is not int or not 0 <= worth <= 999 for worth in row):
                return False
        if list(table) != sorted(set(table)):
            return False
    return True


def outcomes_of(query, store):
    """Return the list of pairs of a strike and the set of the answers that it strikes, for all strikes."""
    groups = groups_by_definition(query, store)
    bits = {row: 1 << k for k, row in enumerate(all_rows(store))}
    masks = {}
    for answer, matches in groups.items():
        masks[answer] = [sum([bits[row] for row in enumerate(match)]) for match in matches]
    outcomes = []
    for strike in all_strikes(store):
        struck = sum([bits[row] for row in strike])
        outcomes.append((strike, {answer for answer in masks if all(mask & struck for mask in masks[answer])}))
    return outcomes


def losses_by_definition(outcomes, wished, kept):
    """Return the dict of the losses of the strikes that take out the wished answers and strike no kept one."""
    return {
        strike: len(struck - set(wished))
        for strike, struck in outcomes
        if set(wished) <= struck and not set(kept) & struck
    }


def least_by_definition(outcomes, wished, kept):
    return min(losses_by_definition(outcomes, wished, kept).values(), default=None)


def surely_gone_by_definition(outcomes, wished):
    """Return the answers that are not wished and that every best strike strikes."""
    losses = losses_by_definition(outcomes, wished, ())
    best = [struck for strike, struck in outcomes if losses.get(strike, None) == min(losses.values())]
    return tuple(sorted(set.intersection(*best) - set(wished)))
