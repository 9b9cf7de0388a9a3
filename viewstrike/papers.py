"""The forms of papers, for each kind of claim and each verdict."""

from viewstrike.forms import are_numbers_of, is_ascending_choice, is_number_of, is_tuple_of
from viewstrike.queries import variables_of
from viewstrike.rules import parts_of
from viewstrike.stores import groups_of, has_answer_form, is_store
from viewstrike.strikes import is_strike
from viewstrike.trees import is_staying_tree, is_strike_tree

LONGEST = 20


def is_paper(verdict, claim, paper):
    """Return whether the paper has a form that this claim and verdict ask for."""
    if type(verdict) is not str or verdict not in ("shown", "broken"):
        return False
    is_right = FORMS[(claim[0], verdict)]
    return is_right(claim, paper)


def is_chain(rules, value):
    """Return whether value has the form of a chain."""
    return type(value) is tuple and len(value) <= LONGEST and are_numbers_of(value, len(rules))


def is_atom_and_chain(claim, value):
    """Return whether value is a pair of the number of an atom and a chain."""
    return is_tuple_of(value, 2) and is_number_of(value[0], len(claim[1][1])) and is_chain(claim[2], value[1])


def is_chain_paper(claim, paper):
    """Return whether it is the paper for settles, shown: a chain."""
    return is_chain(claim[2], paper)


def is_variables_paper(claim, paper):
    """Return whether it is the paper for settles, broken: some variables."""
    return is_ascending_choice(paper, variables_of(claim[1]))


def is_path_paper(claim, paper):
    """Return whether it is the paper for joined, shown: a path of atoms."""
    return type(paper) is tuple and 1 <= len(paper) <= LONGEST and are_numbers_of(paper, len(claim[1][1]))


def is_atoms_paper(claim, paper):
    """Return whether it is the paper for joined, broken: some atoms."""
    return is_ascending_choice(paper, tuple(range(len(claim[1][1]))))


def is_pairs_paper(claim, paper):
    """Return whether it is the paper for headed, shown: a pair for each part."""
    if not is_tuple_of(paper, len(parts_of(claim[1], claim[2]))):
        return False
    return all([is_atom_and_chain(claim, pair) for pair in paper])


def is_parting_paper(claim, paper):
    """Return whether it is the paper for headed and table, broken: a store, an answer and a strike."""
    return has_store_and_answer(claim, paper) and is_strike(paper[0], paper[2])


def has_store_and_answer(claim, paper):
    """Return whether it is a triple of a store, an answer and something."""
    return is_tuple_of(paper, 3) and is_store(claim[1], paper[0]) and has_answer_form(claim[1], paper[1])


def is_chains_paper(claim, paper):
    """Return whether it is the paper for table, shown: a chain for each part."""
    if not is_tuple_of(paper, len(parts_of(claim[1], claim[2]))):
        return False
    return all([is_chain(claim[2], chain) for chain in paper])


def is_costly_paper(claim, paper):
    """Return whether it is the paper for free, broken: a store, an answer and a strike tree."""
    return has_store_and_answer(claim, paper) and is_strike_tree(paper[0], paper[2])


def is_strike_and_tree(claim, paper):
    """Return whether it is a pair of a strike and a strike tree."""
    return is_tuple_of(paper, 2) and is_strike(claim[2], paper[0]) and is_strike_tree(claim[2], paper[1])


def is_least_paper(claim, paper):
    """Return whether it is the paper for least, shown: a strike and a tree, or for None a tree alone."""
    return is_strike_tree(claim[2], paper) if claim[5] is None else is_strike_and_tree(claim, paper)


def is_other_paper(claim, paper):
    """Return whether it is a paper for least, broken: a strike that loses fewer, or a tree that shows more."""
    if not is_tuple_of(paper, 2) or type(paper[0]) is not str:
        return False
    if paper[0] == "more":
        return claim[5] is not None and is_strike_tree(claim[2], paper[1])
    return paper[0] == "fewer" and is_strike(claim[2], paper[1])


def is_strike_paper(claim, paper):
    """Return whether it is the paper for stay, shown: a strike."""
    return is_strike(claim[2], paper)


def is_staying_paper(claim, paper):
    """Return whether it is the paper for stay, broken: a staying tree."""
    groups = groups_of(claim[1], claim[2])
    return is_staying_tree(claim[2], [len(groups[answer]) for answer in claim[4]], paper)


FORMS = {
    ("settles", "shown"): is_chain_paper,
    ("settles", "broken"): is_variables_paper,
    ("joined", "shown"): is_path_paper,
    ("joined", "broken"): is_atoms_paper,
    ("headed", "shown"): is_pairs_paper,
    ("headed", "broken"): is_parting_paper,
    ("table", "shown"): is_chains_paper,
    ("table", "broken"): is_parting_paper,
    ("free", "shown"): is_atom_and_chain,
    ("free", "broken"): is_costly_paper,
    ("least", "shown"): is_least_paper,
    ("least", "broken"): is_other_paper,
    ("stay", "shown"): is_strike_paper,
    ("stay", "broken"): is_staying_paper,
    ("goes", "shown"): is_strike_and_tree,
    ("goes", "broken"): is_strike_and_tree,
}
