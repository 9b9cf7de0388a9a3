"""Rules that stores keep, and what follows from them: closures, chains, parts, covering."""

from viewstrike.errors import InvalidRules
from viewstrike.forms import is_ascending_choice, is_number_of, is_one_of
from viewstrike.queries import variables_of

MOST_RULES = 6


def require_rules(query, value):
    """Return the value if it is rules for the query; otherwise raise InvalidRules."""
    if type(value) is not tuple or len(value) > MOST_RULES:
        raise InvalidRules(None)
    for index, rule in enumerate(value):
        if not is_rule(query, rule):
            raise InvalidRules(index)
    return value


def is_rules(query, value):
    """Return whether value is rules for the query."""
    try:
        require_rules(query, value)
    except InvalidRules:
        return False
    return True


def is_rule(query, value):
    """Return whether value is a rule (t, xs, y) for the query."""
    if type(value) is not tuple or len(value) != 3:
        return False
    t, xs, y = value
    if not is_number_of(t, len(query[1])):
        return False
    atom = query[1][t]
    return is_ascending_choice(xs, atom) and is_one_of(y, atom) and y not in xs


def contains_all(some, wanted):
    """Return whether each of the wanted things is among some."""
    return all([thing in some for thing in wanted])


def longest_chain(rules, some):
    """Return a chain from some that reaches their closure, each rule of it a further variable."""
    reached = list(some)
    chain = []
    before = -1
    while before < len(chain):
        before = len(chain)
        for number, (_, xs, y) in enumerate(rules):
            if y not in reached and contains_all(reached, xs):
                reached.append(y)
                chain.append(number)
    return tuple(chain)


def reached_by(rules, some, chain):
    """Return the tuple of what a chain from some reaches."""
    return tuple(list(some) + [rules[number][2] for number in chain])


def closure_of(query, rules, some):
    """Return the ascending tuple of the closure of some variables."""
    return tuple(sorted(set(reached_by(rules, some, longest_chain(rules, some)))))


def chain_for(query, rules, some, wanted):
    """Return a chain from some that reaches all of wanted, or None."""
    chain = longest_chain(rules, some)
    for many in range(len(chain) + 1):
        if contains_all(reached_by(rules, some, chain[:many]), wanted):
            return chain[:many]
    return None


def settled_of(query, rules):
    """Return the ascending tuple of the settled variables: the closure of the head's."""
    return closure_of(query, rules, query[0])


def open_of(query, rules):
    """Return the ascending tuple of the query's variables that are not settled."""
    settled = settled_of(query, rules)
    return tuple([variable for variable in variables_of(query) if variable not in settled])


def parts_of(query, rules):
    """Return the tuple of the query's parts, each the ascending tuple of its atoms' numbers."""
    open_variables = open_of(query, rules)
    parts = []
    for t, atom in enumerate(query[1]):
        links = [variable for variable in atom if variable in open_variables]
        near = [part for part in parts if touches(query, part, links)]
        far = [part for part in parts if part not in near]
        parts = far + [joined_part(near, t)]
    return tuple(sorted(parts))


def joined_part(parts, t):
    """Return the ascending tuple of atom t and the atoms of these parts."""
    return tuple(sorted([number for part in parts for number in part] + [t]))


def touches(query, part, variables):
    """Return whether some atom of the part has one of these variables."""
    return any([variable in query[1][t] for t in part for variable in variables])


def are_linked(query, rules, s, t):
    """Return whether atoms s and t have an open variable in common."""
    return any([variable in query[1][s] and variable in query[1][t] for variable in open_of(query, rules)])


def settled_in(query, rules, part):
    """Return the ascending tuple of the settled variables that occur in the part's atoms."""
    return tuple([variable for variable in settled_of(query, rules) if touches(query, part, (variable,))])


def does_cover(query, rules, t, part):
    """Return whether the closure of atom t's variables has all settled variables of the part."""
    return contains_all(closure_of(query, rules, query[1][t]), settled_in(query, rules, part))


def is_headed(query, rules):
    """Return whether every part of the query is covered by some atom."""
    return all([is_covered(query, rules, part) for part in parts_of(query, rules)])


def is_covered(query, rules, part):
    """Return whether some atom covers the part."""
    return any([does_cover(query, rules, t, part) for t in range(len(query[1]))])
