"""The forms of papers about prices, for each kind of claim and each verdict."""

from viewstrike.forms import is_tuple_of
from viewstrike.lines import is_order
from viewstrike.papers import is_other_paper, is_strike_and_tree
from viewstrike.prices import is_prices
from viewstrike.stores import has_answer_form, is_store, matches_with
from viewstrike.strikes import is_strike
from viewstrike.trees import is_strike_tree


def is_price_paper(verdict, claim, paper):
    """Return whether the paper has a form that this claim about prices and verdict ask for."""
    if type(verdict) is not str or verdict not in ("shown", "broken"):
        return False
    is_right = PRICE_FORMS[(claim[0], verdict)]
    return is_right(claim, paper)


def is_cheapest_paper(claim, paper):
    """Return whether it is the paper for cheapest, shown: a strike and a price tree."""
    return is_strike_and_tree(claim, paper)


def is_other_price_paper(claim, paper):
    """Return whether it is a paper for cheapest, broken: a strike that costs fewer, or a tree that shows more."""
    return is_other_paper(claim, paper)


def is_order_paper(claim, paper):
    """Return whether it is the paper for lined, shown: the number of each atom once."""
    return is_order(claim[1], paper)


def is_gap_paper(claim, paper):
    """Return whether it is the paper for lined, broken: a store, prices, an answer, halves and a price tree."""
    if not is_tuple_of(paper, 5) or not is_store(claim[1], paper[0]) or not has_answer_form(claim[1], paper[2]):
        return False
    store, prices, _, halves, tree = paper
    return is_prices(store, prices) and is_prices(store, halves) and is_strike_tree(store, tree)


def are_lot_trees(claim, value):
    """Return whether value has a price tree for each match of the answer with the row, and at least one."""
    _, query, store, answer, place, _ = claim
    many = len([match for match in matches_with(query, store, answer) if match[place[0]] == place[1]])
    return many > 0 and is_tuple_of(value, many) and all([is_strike_tree(store, tree) for tree in value])


def is_lot_paper(claim, paper):
    """Return whether it is the paper for decides, shown: a strike and trees, or for None nothing."""
    if claim[5] is None:
        return is_tuple_of(paper, 0)
    return is_tuple_of(paper, 2) and is_strike(claim[2], paper[0]) and are_lot_trees(claim, paper[1])


def is_other_lot_paper(claim, paper):
    """Return whether it is a paper for decides, broken: a smaller lot, trees that show more, or that there is none."""
    if type(paper) is not tuple or len(paper) == 0 or type(paper[0]) is not str:
        return False
    if paper[0] == "fewer":
        return len(paper) == 2 and is_strike(claim[2], paper[1])
    if claim[5] is None:
        return False
    if paper[0] == "more":
        return len(paper) == 2 and are_lot_trees(claim, paper[1])
    return paper == ("none",)


PRICE_FORMS = {
    ("cheapest", "shown"): is_cheapest_paper,
    ("cheapest", "broken"): is_other_price_paper,
    ("lined", "shown"): is_order_paper,
    ("lined", "broken"): is_gap_paper,
    ("decides", "shown"): is_lot_paper,
    ("decides", "broken"): is_other_lot_paper,
}
