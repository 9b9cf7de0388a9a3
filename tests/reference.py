"""The document's table of papers and faults, written down as plainly as possible: no speed, nothing of the program."""

from tests.definitions import (
    groups_by_definition,
    has_store_form,
    keeps_by_definition,
    single_by_definition,
    struck_by_definition,
)


def closure(rules, some):
    reached = set(some)
    for _ in rules:
        reached |= {y for _, xs, y in rules if set(xs) <= reached}
    return reached


def settled(query, rules):
    return closure(rules, query[0])


def open_variables(query, rules):
    return sorted({v for atom in query[1] for v in atom} - settled(query, rules))


def parts(query, rules):
    left, found = list(range(len(query[1]))), []
    while left:
        part = [left[0]]
        for _ in left:
            part += [t for t in left if t not in part and any(linked(query, rules, s, t) for s in part)]
        found.append(tuple(sorted(part)))
        left = [t for t in left if t not in part]
    return found


def linked(query, rules, s, t):
    return bool(set(query[1][s]) & set(query[1][t]) & set(open_variables(query, rules)))


def needed(query, rules, part):
    return settled(query, rules) & {v for t in part for v in query[1][t]}


def is_integer(value, low, high):
    return type(value) is int and low <= value <= high


def is_tuple(value, least=0, most=10**9):
    return type(value) is tuple and least <= len(value) <= most


def chain_form(rules, value):
    return is_tuple(value, 0, 20) and all(is_integer(k, 0, len(rules) - 1) for k in value)


def set_form(numbers, value):
    return is_tuple(value) and all(type(v) is int for v in value) and list(value) == sorted(set(value) & set(numbers))


def pair_form(query, rules, value):
    return is_tuple(value, 2, 2) and is_integer(value[0], 0, len(query[1]) - 1) and chain_form(rules, value[1])


def strike_form(store, value):
    if not is_tuple(value) or not all(is_tuple(pair, 2, 2) for pair in value):
        return False
    if not all(type(t) is int and type(r) is int for t, r in value) or list(value) != sorted(set(value)):
        return False
    return all(0 <= t < len(store) and 0 <= r < len(store[t]) for t, r in value)


def answer_form(query, value):
    return is_tuple(value, len(query[0]), len(query[0])) and all(is_integer(worth, 0, 999) for worth in value)


def match_form(store, value):
    if not is_tuple(value, len(store), len(store)):
        return False
    return all(is_integer(r, 0, len(table) - 1) for r, table in zip(value, store))


def tree_form(store, value, most=12):
    if not is_tuple(value) or len(value) == 0:
        return is_tuple(value)
    if len(value) != 2 or most == 0 or not match_form(store, value[0]):
        return False
    if not is_tuple(value[1], len(store), len(store)):
        return False
    return all(tree is None or tree_form(store, tree, most - 1) for tree in value[1])


def staying_form(store, numbers, value, most=2):
    if not is_tuple(value, 2, 2):
        return False
    if type(value[0]) is str and value[0] == "hit":
        return match_form(store, value[1])
    if most == 0 or not is_integer(value[0], 0, len(numbers) - 1):
        return False
    many = numbers[value[0]]
    return is_tuple(value[1], many, many) and all(staying_form(store, numbers, tree, most - 1) for tree in value[1])


def paper_form(verdict, claim, paper):
    if type(verdict) is not str or verdict not in ("shown", "broken"):
        return False
    kind, query, second = claim[0], claim[1], claim[2]
    word = kind + " " + verdict
    if word == "settles shown":
        return chain_form(second, paper)
    if word == "settles broken":
        return set_form({v for atom in query[1] for v in atom}, paper)
    if word == "joined shown":
        return is_tuple(paper, 1, 20) and all(is_integer(t, 0, len(query[1]) - 1) for t in paper)
    if word == "joined broken":
        return set_form(range(len(query[1])), paper)
    if word in ("headed shown", "table shown"):
        many = len(parts(query, second))
        if not is_tuple(paper, many, many):
            return False
        if kind == "headed":
            return all(pair_form(query, second, pair) for pair in paper)
        return all(chain_form(second, chain) for chain in paper)
    if word == "free shown":
        return pair_form(query, second, paper)
    if verdict == "broken" and kind in ("headed", "table", "free"):
        if not is_tuple(paper, 3, 3) or not has_store_form(query, paper[0]) or not answer_form(query, paper[1]):
            return False
        return tree_form(paper[0], paper[2]) if kind == "free" else strike_form(paper[0], paper[2])
    return store_paper_form(word, claim, paper)


def store_paper_form(word, claim, paper):
    query, store = claim[1], claim[2]
    if word == "least shown" and claim[5] is None:
        return tree_form(store, paper)
    if word in ("least shown", "goes shown", "goes broken"):
        return is_tuple(paper, 2, 2) and strike_form(store, paper[0]) and tree_form(store, paper[1])
    if word == "least broken":
        if not is_tuple(paper, 2, 2) or type(paper[0]) is not str:
            return False
        more = claim[5] is not None and paper[0] == "more" and tree_form(store, paper[1])
        return more or paper[0] == "fewer" and strike_form(store, paper[1])
    if word == "stay shown":
        return strike_form(store, paper)
    groups = groups_by_definition(query, store)
    return staying_form(store, [len(groups[answer]) for answer in claim[4]], paper)


def rule_fault(rules, some, chain):
    reached = set(some)
    for k, number in enumerate(chain):
        if not set(rules[number][1]) <= reached:
            return ("rule", k)
        reached.add(rules[number][2])
    return None


def chain_fault(rules, some, chain, wanted):
    fault = rule_fault(rules, some, chain)
    reached = set(some) | {rules[number][2] for number in chain}
    return fault or (None if set(wanted) <= reached else ("end",))


def tree_path(groups, store, wished, kept, n, tree, struck=frozenset(), spared=frozenset()):
    if tree == ():
        gone = set(struck_by_definition(groups, struck))
        ends = bool(gone & set(kept)) or n is not None and len(gone - set(wished)) >= n
        return None if ends else ()
    match, trees = tree
    rows = list(enumerate(match))
    if not any(match in groups[answer] for answer in wished) or set(rows) & struck:
        return ()
    if [t for t, row in rows if (t, row) in spared] != [t for t, row in rows if trees[t] is None]:
        return ()
    for t, row in rows:
        if trees[t] is not None:
            below = (struck | {(t, row)}, spared | set(rows[:t]))
            path = tree_path(groups, store, wished, kept, n, trees[t], *below)
            if path is not None:
                return (t,) + path
    return None


def tree_fault(query, store, wished, kept, n, tree):
    path = tree_path(groups_by_definition(query, store), store, wished, kept, n, tree)
    return None if path is None else ("tree", path)


def staying_path(groups, wished, kept, tree, spared=frozenset()):
    if tree[0] == "hit":
        right = any(tree[1] in groups[answer] for answer in wished) and set(enumerate(tree[1])) <= spared
        return None if right else ()
    for index, match in enumerate(groups[kept[tree[0]]]):
        path = staying_path(groups, wished, kept, tree[1][index], spared | set(enumerate(match)))
        if path is not None:
            return (index,) + path
    return None


def fault_of_rules(verdict, claim, paper):
    kind, query, rules = claim[:3]
    some = parts(query, rules)
    if (kind, verdict) == ("settles", "shown"):
        return chain_fault(rules, claim[3], paper, {claim[4]})
    if (kind, verdict) == ("settles", "broken"):
        if not set(claim[3]) <= set(paper) or claim[4] in paper:
            return ("set",)
        open_rules = [k for k, (_, xs, y) in enumerate(rules) if set(xs) <= set(paper) and y not in paper]
        return ("rule", open_rules[0]) if open_rules else None
    if (kind, verdict) == ("joined", "shown"):
        if (paper[0], paper[-1]) != claim[3:]:
            return ("end",)
        gaps = [k for k in range(1, len(paper)) if not linked(query, rules, paper[k - 1], paper[k])]
        return ("step", gaps[0]) if gaps else None
    if (kind, verdict) == ("joined", "broken"):
        if claim[3] not in paper or claim[4] in paper:
            return ("set",)
        inside = {v for t in paper for v in query[1][t]}
        outside = {v for t, atom in enumerate(query[1]) if t not in paper for v in atom}
        both = [v for v in open_variables(query, rules) if v in inside and v in outside]
        return ("variable", both[0]) if both else None
    if (kind, verdict) == ("free", "shown"):
        return chain_fault(rules, query[1][paper[0]], paper[1], settled(query, rules))
    for p, part in enumerate(some):
        t, chain = paper[p] if kind == "headed" else (claim[3], paper[p])
        if chain_fault(rules, query[1][t], chain, needed(query, rules, part)):
            return ("part", p)
    return None


def fault_of_parting(claim, paper):
    kind, query, rules = claim[:3]
    store, answer, last = paper
    if not keeps_by_definition(query, rules, store):
        return ("store",)
    groups = groups_by_definition(query, store)
    if answer not in groups:
        return ("answer",)
    if kind == "free":
        return tree_fault(query, store, (answer,), (), 1, last)
    struck = struck_by_definition(groups, last)
    if answer not in struck:
        return ("strike",)
    for t in range(len(store)) if kind == "headed" else (claim[3],):
        if len(struck) >= len(struck_by_definition(groups, single_by_definition(groups, answer, t))):
            return ("table", t)
    return None


def fault_of_store(verdict, claim, paper):
    kind, query, store, wished = claim[:4]
    groups = groups_by_definition(query, store)
    if (kind, verdict) == ("stay", "broken"):
        path = staying_path(groups, wished, claim[4], paper)
        return None if path is None else ("tree", path)
    n = claim[5] if kind == "least" else None
    if (kind, verdict) == ("least", "shown") and n is None:
        return tree_fault(query, store, wished, claim[4], None, paper)
    if (kind, verdict) == ("least", "broken") and paper[0] == "more":
        return tree_fault(query, store, wished, claim[4], n + 1, paper[1])
    strike = paper if kind == "stay" else paper[1] if (kind, verdict) == ("least", "broken") else paper[0]
    struck = struck_by_definition(groups, strike)
    loss = len(set(struck) - set(wished))
    if not set(wished) <= set(struck):
        return ("strike",)
    if kind == "goes":
        if verdict == "shown":
            return tree_fault(query, store, wished, (claim[4],), loss + 1, paper[1])
        return ("answer",) if claim[4] in struck else tree_fault(query, store, wished, (), loss, paper[1])
    for k, answer in enumerate(claim[4]):
        if answer in struck:
            return ("kept", k)
    if kind == "stay":
        return None
    if verdict == "broken":
        return ("loss",) if n is not None and loss >= n else None
    return ("loss",) if loss != n else tree_fault(query, store, wished, claim[4], n, paper[1])


def fault_by_document(verdict, claim, paper):
    """Return the first fault of a certificate with a valid claim, or None."""
    if not paper_form(verdict, claim, paper):
        return ("paper",)
    if claim[0] in ("least", "stay", "goes"):
        return fault_of_store(verdict, claim, paper)
    if verdict == "broken" and claim[0] in ("headed", "table", "free"):
        return fault_of_parting(claim, paper)
    return fault_of_rules(verdict, claim, paper)
