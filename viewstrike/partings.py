"""Partings: stores with an answer for which another strike loses less than those of single tables."""

from viewstrike.queries import variables_of
from viewstrike.rules import closure_of, does_cover, is_covered, open_of, parts_of, settled_in, touches

# Marks are 1 and more, so they stay apart from new values where there are fewer than 100 atoms.
FIRST_NEW = 101


def parting_for(query, rules):
    """Return a parting, or None where the query is headed by the rules."""
    for part in parts_of(query, rules):
        if not is_covered(query, rules, part):
            return parting_of(query, rules, part, part, tuple(range(len(query[1]))))
    return None


def parting_for_table(query, rules, t):
    """Return a parting for table t, or None where its atom covers every part."""
    part = uncovered_part(query, rules, t)
    return None if part is None else parting_of(query, rules, part, (t,), (t,))


def uncovered_part(query, rules, t):
    """Return the first part that atom t does not cover, or None."""
    for part in parts_of(query, rules):
        if not does_cover(query, rules, t, part):
            return part
    return None


def parting_of(query, rules, part, firsts, seconds):
    """Return the parting that has the first matches of some atoms and the second ones of some."""
    before = [first_match(query, rules, part, t) for t in firsts]
    after = [second_match(query, rules, part, t, first_match(query, rules, part, t)) for t in seconds]
    store = store_with(query, before + after)
    pairs = [struck_row(query, rules, part, t, store, worths) for t, worths in zip(firsts, before)]
    return (store, zeros_of(query), tuple(sorted(pairs)))


def zeros_of(query):
    """Return the answer that has nothing but zeros."""
    return tuple([0 for _ in query[0]])


def zero_match(query):
    """Return the match that has 0 at all variables; here a match is a dict of its variables' worths."""
    return {variable: 0 for variable in variables_of(query)}


def first_match(query, rules, part, t):
    """Return the first match of atom t: zeros, but the mark of t at the part's open variables."""
    worths = zero_match(query)
    for variable in open_of(query, rules):
        if touches(query, part, (variable,)):
            worths[variable] = t + 1
    return worths


def second_match(query, rules, part, t, worths):
    """Return the match with these worths, but new ones at the variables that atom t leaves free in the part."""
    changed = {variable: worths[variable] for variable in worths}
    for variable in free_group(query, rules, part, t):
        changed[variable] = FIRST_NEW + t
    return changed


def free_group(query, rules, part, t):
    """Return the variables that hang together with the part's first settled one that atom t does not determine."""
    closure = closure_of(query, rules, query[1][t])
    group = [[variable for variable in settled_in(query, rules, part) if variable not in closure][0]]
    reached = 0
    while reached < len(group):
        for variable in neighbours_of(query, group[reached]):
            if variable not in closure and variable not in group:
                group.append(variable)
        reached = reached + 1
    return tuple(sorted(group))


def neighbours_of(query, variable):
    """Return the list of the variables of the atoms that have the variable."""
    return [other for atom in query[1] if variable in atom for other in atom]


def store_with(query, matches):
    """Return the store that has the rows of these matches and no others."""
    return tuple([tuple(sorted({row_of(atom, worths) for worths in matches})) for atom in query[1]])


def row_of(atom, worths):
    """Return the row with these worths in the table that stands for the atom."""
    return tuple([worths[variable] for variable in atom])


def struck_row(query, rules, part, t, store, worths):
    """Return the place of the row of atom t's first match, with these worths, that its second one does not share."""
    group = free_group(query, rules, part, t)
    table = [s for s in part if touches(query, (s,), group)][0]
    return (table, store[table].index(row_of(query[1][table], worths)))


def costly_store(query, rules):
    """Return a store in which the answer of zeros cannot be taken out without loss; no atom covers every part."""
    zeros = zero_match(query)
    parts = [uncovered_part(query, rules, t) for t in range(len(query[1]))]
    return store_with(query, [zeros] + [second_match(query, rules, part, t, zeros) for t, part in enumerate(parts)])
