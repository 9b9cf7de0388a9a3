"""Prices, loads, lines and lots as the document defines them, and its table of papers about prices, word by word."""

import functools
import itertools

from tests.definitions import all_rows, all_strikes, groups_by_definition, has_store_form, has_struck_row
from tests.reference import answer_form, is_integer, is_tuple, strike_form, tree_form


@functools.lru_cache(maxsize=None)
def groups(query, store):
    return groups_by_definition(query, store)


def price(prices, strike):
    return sum(prices[t][r] for t, r in strike)


def takes(query, store, strike, answer):
    return all(has_struck_row(match, strike) for match in groups(query, store)[answer])


def cheapest_by_definition(query, store, prices, answer):
    return min(price(prices, strike) for strike in all_strikes(store) if takes(query, store, strike, answer))


def price_path(wanted, prices, n, tree, struck, spared):
    """Return the path to the first place of a price tree that fails, or None."""
    if tree == ():
        return None if price(prices, struck) >= n else ()
    match, trees = tree
    rows = list(enumerate(match))
    if match not in wanted or any(row in struck for row in rows):
        return ()
    if [t for t, row in enumerate(rows) if row in spared] != [t for t in range(len(rows)) if trees[t] is None]:
        return ()
    for t, row in enumerate(rows):
        if trees[t] is not None:
            path = price_path(wanted, prices, n, trees[t], struck | {row}, spared | set(rows[:t]))
            if path is not None:
                return (t,) + path
    return None


def answer_tree_path(query, store, prices, answer, n, tree):
    return price_path(groups(query, store)[answer], prices, n, tree, frozenset(), frozenset())


def is_right_price_tree(query, store, prices, answer, n, value):
    return tree_form(store, value) and answer_tree_path(query, store, prices, answer, n, value) is None


def left_over(query, store, strike):
    """Return the answers that are in the view behind the strike."""
    told = groups(query, store)
    return {answer for answer in told if any(not has_struck_row(match, strike) for match in told[answer])}


def is_lot_by_definition(query, store, answer, place, value):
    if not strike_form(store, value) or place in value or answer not in left_over(query, store, value):
        return False
    return answer not in left_over(query, store, value + (place,))


@functools.lru_cache(maxsize=None)
def least_size(query, store, answer, place):
    sizes = [len(strike) for strike in all_strikes(store) if is_lot_by_definition(query, store, answer, place, strike)]
    return min(sizes, default=None)


def with_row(query, store, answer, place):
    return [match for match in groups(query, store)[answer] if match[place[0]] == place[1]]


def unheaded(query):
    return sorted({v for atom in query[1] for v in atom} - set(query[0]))


def scattered(query, order):
    """Return the unheaded variables whose atoms do not stand side by side."""
    found = []
    for v in unheaded(query):
        signs = "".join("x" if v in query[1][t] else " " for t in order)
        if " " in signs.strip():
            found.append(v)
    return found


def order_form(query, value):
    atoms = list(range(len(query[1])))
    return is_tuple(value) and all(type(t) is int for t in value) and sorted(value) == atoms


def has_line(query):
    return any(not scattered(query, order) for order in itertools.permutations(range(len(query[1]))))


def paths_avoid(query, s, t, third):
    """Return whether some path joins s and t that has nothing of the third atom; all without repeats are tried."""
    links = set(unheaded(query)) - set(query[1][third])
    others = [k for k in range(len(query[1])) if k not in (s, t)]
    for many in range(len(others) + 1):
        for between in itertools.permutations(others, many):
            path = (s,) + between + (t,)
            if all(links & set(query[1][a]) & set(query[1][b]) for a, b in zip(path, path[1:])):
                return True
    return False


def is_triad(query, value):
    if not is_tuple(value, 3, 3) or not all(is_integer(t, 0, len(query[1]) - 1) for t in value):
        return False
    a, b, c = value
    return a < b < c and paths_avoid(query, a, b, c) and paths_avoid(query, b, c, a) and paths_avoid(query, a, c, b)


def prices_form(store, value):
    if not is_tuple(value, len(store), len(store)):
        return False
    for table, told in zip(store, value):
        if not is_tuple(told, len(table), len(table)) or not all(is_integer(k, 0, 99) for k in told):
            return False
    return True


def are_loads_by_definition(query, store, prices, answer, value):
    if not is_tuple(value) or not all(is_tuple(pair, 2, 2) for pair in value):
        return False
    for match, load in value:
        if not is_tuple(match) or not all(type(r) is int for r in match) or match not in groups(query, store)[answer]:
            return False
        if type(load) is not int or load < 1:
            return False
    matches = [match for match, _ in value]
    if list(value) != sorted(value) or len(set(matches)) != len(matches):
        return False
    rows = all_rows(store)
    return all(sum(load for match, load in value if match[t] == r) <= prices[t][r] for t, r in rows)


def trees_form(claim, value):
    many = len(with_row(*claim[1:5]))
    return many > 0 and is_tuple(value, many, many) and all(tree_form(claim[2], tree) for tree in value)


def price_paper_form(verdict, claim, paper):
    if type(verdict) is not str or verdict not in ("shown", "broken"):
        return False
    kind, query = claim[:2]
    if kind == "lined" and verdict == "shown":
        return order_form(query, paper)
    if kind == "lined":
        if not is_tuple(paper, 5, 5) or not has_store_form(query, paper[0]) or not prices_form(paper[0], paper[1]):
            return False
        return answer_form(query, paper[2]) and prices_form(paper[0], paper[3]) and tree_form(paper[0], paper[4])
    store, n = claim[2], claim[5]
    if verdict == "shown" and n is None:
        return is_tuple(paper, 0, 0)
    if verdict == "shown":
        if not is_tuple(paper, 2, 2) or not strike_form(store, paper[0]):
            return False
        return tree_form(store, paper[1]) if kind == "cheapest" else trees_form(claim, paper[1])
    if not is_tuple(paper, 1, 2) or type(paper[0]) is not str:
        return False
    if len(paper) == 1:
        return kind == "decides" and paper[0] == "none" and n is not None
    if paper[0] == "fewer":
        return strike_form(store, paper[1])
    if paper[0] != "more" or n is None:
        return False
    return tree_form(store, paper[1]) if kind == "cheapest" else trees_form(claim, paper[1])


def told_path(word, path):
    return None if path is None else word + (path,)


def cheapest_fault(verdict, claim, paper):
    _, query, store, prices, answer, n = claim
    if verdict == "broken" and paper[0] == "more":
        return told_path(("tree",), answer_tree_path(query, store, prices, answer, n + 1, paper[1]))
    strike = paper[0] if verdict == "shown" else paper[1]
    if not takes(query, store, strike, answer):
        return ("strike",)
    if verdict == "broken":
        return None if price(prices, strike) < n else ("price",)
    if price(prices, strike) != n:
        return ("price",)
    return told_path(("tree",), answer_tree_path(query, store, prices, answer, n, paper[1]))


def lined_fault(verdict, claim, paper):
    query = claim[1]
    if verdict == "shown":
        return ("variable", scattered(query, paper)[0]) if scattered(query, paper) else None
    store, prices, answer, halves, tree = paper
    told = groups_by_definition(query, store)
    if answer not in told:
        return ("answer",)
    for match in told[answer]:
        if sum(halves[t][r] for t, r in enumerate(match)) < 2:
            return ("match", match)
    worth = sum(halves[t][r] * prices[t][r] for t, r in all_rows(store))
    n = min(n for n in range(worth + 2) if 2 * n > worth)
    return told_path(("tree",), price_path(told[answer], prices, n, tree, frozenset(), frozenset()))


def decides_fault(verdict, claim, paper):
    _, query, store, answer, place, n = claim
    inside = with_row(query, store, answer, place)
    if paper in ((), ("none",)):
        return ("match",) if inside else None
    if paper[0] == "more":
        return trees_fault(claim, n + 1, paper[1])
    strike = paper[0] if verdict == "shown" else paper[1]
    if not is_lot_by_definition(query, store, answer, place, strike):
        return ("lot",)
    if verdict == "broken":
        return None if n is None or len(strike) < n else ("size",)
    return ("size",) if len(strike) != n else trees_fault(claim, n, paper[1])


def trees_fault(claim, n, trees):
    _, query, store, answer, place, _ = claim
    inside = with_row(query, store, answer, place)
    outside = [match for match in groups(query, store)[answer] if match not in inside]
    ones = tuple((1,) * len(table) for table in store)
    for k, match in enumerate(inside):
        path = price_path(outside, ones, n, trees[k], frozenset(), frozenset(enumerate(match)))
        if path is not None:
            return ("tree", k, path)
    return None


def price_fault_by_document(verdict, claim, paper):
    """Return the first fault of a certificate with a valid claim about prices, or None."""
    if not price_paper_form(verdict, claim, paper):
        return ("paper",)
    faults = {"cheapest": cheapest_fault, "lined": lined_fault, "decides": decides_fault}
    return faults[claim[0]](verdict, claim, paper)


def is_true_price_claim(claim):
    if claim[0] == "cheapest":
        return cheapest_by_definition(*claim[1:5]) == claim[5]
    return has_line(claim[1]) if claim[0] == "lined" else least_size(*claim[1:5]) == claim[5]
