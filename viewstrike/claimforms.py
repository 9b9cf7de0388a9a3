"""The forms of claims: what makes a claim valid."""

from viewstrike.forms import is_ascending, is_ascending_choice, is_number_of, is_one_of
from viewstrike.queries import is_query, variables_of
from viewstrike.rules import is_rules
from viewstrike.stores import has_answer_form, is_store, view_of

MOST_ROWS_IN_ALL = 12
MOST_WISHED = 3
MOST_KEPT = 2
GREATEST_LOSS = 200


def is_claim(value):
    """Return whether value is a valid claim."""
    if type(value) is not tuple or len(value) == 0 or type(value[0]) is not str or value[0] not in LENGTHS:
        return False
    is_right = RIGHT[value[0]]
    return len(value) == LENGTHS[value[0]] and is_right(value)


def has_rules(claim):
    """Return whether the claim's query and rules are right."""
    return is_query(claim[1]) and is_rules(claim[1], claim[2])


def is_settles(claim):
    """Return whether the parts of a claim "settles" are right."""
    if not has_rules(claim):
        return False
    variables = variables_of(claim[1])
    return is_ascending_choice(claim[3], variables) and is_one_of(claim[4], variables)


def is_joined(claim):
    """Return whether the parts of a claim "joined" are right."""
    return has_rules(claim) and all([is_number_of(t, len(claim[1][1])) for t in claim[3:]])


def is_table(claim):
    """Return whether the parts of a claim "table" are right."""
    return has_rules(claim) and is_number_of(claim[3], len(claim[1][1]))


def has_small_store(claim):
    """Return whether the claim's query and store are right, with no more rows than a claim may have."""
    if not is_query(claim[1]) or not is_store(claim[1], claim[2]):
        return False
    return sum([len(table) for table in claim[2]]) <= MOST_ROWS_IN_ALL


def is_shown_answer(claim, value):
    """Return whether value is an answer of the view of the claim's store."""
    return has_answer_form(claim[1], value) and value in view_of(claim[1], claim[2])


def are_shown_answers(claim, value, most):
    """Return whether value is a strictly ascending tuple, perhaps empty, of at most so many answers of the view."""
    if type(value) is not tuple or len(value) > most:
        return False
    return all([is_shown_answer(claim, answer) for answer in value]) and is_ascending(value)


def has_wished(claim):
    """Return whether the claim's query, store and wished answers are right."""
    return has_small_store(claim) and are_shown_answers(claim, claim[3], MOST_WISHED) and len(claim[3]) > 0


def is_stay(claim):
    """Return whether the parts of a claim "stay", or those that "least" begins with, are right."""
    if not has_wished(claim) or not are_shown_answers(claim, claim[4], MOST_KEPT):
        return False
    return all([answer not in claim[3] for answer in claim[4]])


def is_least(claim):
    """Return whether the parts of a claim "least" are right."""
    return is_stay(claim) and (claim[5] is None or is_number_of(claim[5], GREATEST_LOSS + 1))


def is_goes(claim):
    """Return whether the parts of a claim "goes" are right."""
    return has_wished(claim) and is_shown_answer(claim, claim[4]) and claim[4] not in claim[3]


LENGTHS = {"settles": 5, "joined": 5, "headed": 3, "table": 4, "free": 3, "least": 6, "stay": 5, "goes": 5}
RIGHT = {
    "settles": is_settles,
    "joined": is_joined,
    "headed": has_rules,
    "table": is_table,
    "free": has_rules,
    "least": is_least,
    "stay": is_stay,
    "goes": is_goes,
}
