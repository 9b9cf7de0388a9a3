"""Stores: tables of rows, the rules that they keep, their matches and the view that they show."""

from viewstrike.errors import InvalidStore
from viewstrike.forms import are_numbers_of, is_tuple_of

MOST_ROWS = 12
WORTHS = 1000


def require_store(query, rules, value):
    """Return the value if it is a store of the query that keeps the rules; otherwise raise InvalidStore."""
    if not is_tuple_of(value, len(query[1])):
        raise InvalidStore(None, None)
    for t, table in enumerate(value):
        if type(table) is not tuple or len(table) > MOST_ROWS:
            raise InvalidStore(t, None)
        number = first_wrong_row(query, t, table)
        if number is not None:
            raise InvalidStore(t, number)
    for rule in rules:
        number = first_breaking_row(query, value, rule)
        if number is not None:
            raise InvalidStore(rule[0], number)
    return value


def is_store(query, value):
    """Return whether value is a store of the query, whatever rules it keeps."""
    try:
        require_store(query, (), value)
    except InvalidStore:
        return False
    return True


def first_wrong_row(query, t, table):
    """Return the index of the first element that is no row of table t or not above the one before it, or None."""
    for number, row in enumerate(table):
        if not is_row(query, t, row) or number > 0 and row <= table[number - 1]:
            return number
    return None


def is_row(query, t, value):
    """Return whether value is a row of table t."""
    return is_tuple_of(value, len(query[1][t])) and are_numbers_of(value, WORTHS)


def has_answer_form(query, value):
    """Return whether value is a tuple of values, one for each variable of the head."""
    return is_tuple_of(value, len(query[0])) and are_numbers_of(value, WORTHS)


def first_breaking_row(query, store, rule):
    """Return the number of the first row that agrees with one before it in the rule's xs, but not in y, or None."""
    t, xs, y = rule
    atom = query[1][t]
    determined = {}
    for number, row in enumerate(store[t]):
        key = tuple([row[atom.index(x)] for x in xs])
        worth = row[atom.index(y)]
        if key not in determined:
            determined[key] = worth
        elif determined[key] != worth:
            return number
    return None


def does_keep(query, rules, store):
    """Return whether the store keeps the rules."""
    return all([first_breaking_row(query, store, rule) is None for rule in rules])


def place_of(atoms, variable):
    """Return the first pair of a table and a column with the variable, or None."""
    for t, atom in enumerate(atoms):
        if variable in atom:
            return (t, atom.index(variable))
    return None


def worths_at(store, match, places):
    """Return the tuple of what the match's rows have at these places."""
    return tuple([store[t][match[t]][column] for t, column in places])


def matches_of(query, store):
    """Return the ascending tuple of all matches."""
    matches = [()]
    for t in range(len(query[1])):
        matches = lengthened(query, store, matches, t)
    return tuple(matches)


def lengthened(query, store, matches, t):
    """Return the list of all matches of the tables up to t, of those of the tables before it."""
    shared = [variable for variable in query[1][t] if place_of(query[1][:t], variable) is not None]
    places = [place_of(query[1], variable) for variable in shared]
    columns = [query[1][t].index(variable) for variable in shared]
    fitting = {}
    for number, row in enumerate(store[t]):
        fitting.setdefault(tuple([row[column] for column in columns]), []).append(number)
    return [match + (number,) for match in matches for number in fitting.get(worths_at(store, match, places), [])]


def answer_of(query, store, match):
    """Return the answer of a match."""
    return worths_at(store, match, [place_of(query[1], variable) for variable in query[0]])


def shown_matches(query, store):
    """Return the list of pairs of an answer and a match of it, in the ascending order of the matches."""
    places = [place_of(query[1], variable) for variable in query[0]]
    return [(worths_at(store, match, places), match) for match in matches_of(query, store)]


def groups_of(query, store):
    """Return the dict of the lists of matches by their answers."""
    groups = {}
    for answer, match in shown_matches(query, store):
        groups.setdefault(answer, []).append(match)
    return groups


def view_of(query, store):
    """Return the view: the ascending tuple of the answers of all matches."""
    # Matches that look alike from the tables ahead are followed once, so that a full store takes no long time.
    variables, states = (), [()]
    for t in range(len(query[1])):
        lasting = lasting_at(query, t)
        states = states_behind(query[1][t], store[t], variables, states, lasting)
        variables = lasting
    return tuple(sorted(states))


def lasting_at(query, t):
    """Return the ascending tuple of the variables of the atoms up to t that the head or an atom behind it has, too."""
    wanted = list(query[0]) + [variable for atom in query[1][t + 1:] for variable in atom]
    return tuple(sorted({variable for atom in query[1][:t + 1] for variable in atom if variable in wanted}))


def states_behind(atom, table, variables, states, lasting):
    """Return the list of the different tuples of worths of the lasting variables behind the table.

    states has those of the variables before it.
    """
    shared = [variable for variable in atom if variable in variables]
    rows_by_key = {}
    for row in table:
        rows_by_key.setdefault(tuple([row[atom.index(variable)] for variable in shared]), []).append(row)
    key_columns = [variables.index(variable) for variable in shared]
    columns = [(list(variables) + list(atom)).index(variable) for variable in lasting]
    found = {}
    for state in states:
        for row in rows_by_key.get(tuple([state[column] for column in key_columns]), []):
            both = state + row
            found[tuple([both[column] for column in columns])] = True
    return list(found)


def is_shown(query, store, answer):
    """Return whether the answer is one of the view."""
    worths = dict(zip(query[0], answer))
    narrowed = [[row for row in table if fits(atom, row, worths)] for atom, table in zip(query[1], store)]
    return len(view_of(query, narrowed)) > 0


def fits(atom, row, worths):
    """Return whether the row has these worths at those of the atom's variables that they name."""
    return all([worths.get(variable, worth) == worth for variable, worth in zip(atom, row)])


def matches_with(query, store, answer):
    """Return the list of the answer's matches in ascending order."""
    return [match for other, match in shown_matches(query, store) if other == answer]
