"""Queries: a head and the atoms that it names variables of."""

from viewstrike.errors import InvalidQuery
from viewstrike.forms import is_ascending_choice, is_number_of

VARIABLES = 7
MOST_ATOMS = 5
LONGEST_ATOM = 4


def require_query(value):
    """Return the value if it is a query; otherwise raise InvalidQuery."""
    if not has_query_form(value):
        raise InvalidQuery(None)
    for index, atom in enumerate(value[1]):
        if not is_atom(atom):
            raise InvalidQuery(index)
    if not is_ascending_choice(value[0], variables_of(value)):
        raise InvalidQuery(-1)
    return value


def is_query(value):
    """Return whether value is a query."""
    try:
        require_query(value)
    except InvalidQuery:
        return False
    return True


def has_query_form(value):
    """Return whether value is a pair of two tuples, the second one as long as atoms may be."""
    if type(value) is not tuple or len(value) != 2:
        return False
    head, atoms = value
    return type(head) is tuple and type(atoms) is tuple and 1 <= len(atoms) <= MOST_ATOMS


def is_atom(value):
    """Return whether value is a tuple of 1 to 4 different variables."""
    if type(value) is not tuple or not 1 <= len(value) <= LONGEST_ATOM:
        return False
    return all([is_number_of(variable, VARIABLES) for variable in value]) and len(set(value)) == len(value)


def variables_of(query):
    """Return the ascending tuple of the variables that occur in the query's atoms."""
    return tuple(sorted({variable for atom in query[1] for variable in atom}))
