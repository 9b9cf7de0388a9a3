"""Lines of queries, the triads that stand in their way, and stores in which loads fall short without a line."""

from viewstrike.forms import are_numbers_of, is_tuple_of
from viewstrike.partings import row_of, store_with, zero_match, zeros_of
from viewstrike.prices import price_tree
from viewstrike.queries import variables_of

# A ring of triangles, each told by its three corners. In turn, one corner is another one in the next triangle, so the
# two share the side between the other two corners. Half of each shared side meets every triangle twice, four and a half
# sides in all; but as the triangles are nine, an odd number, five whole sides are needed to meet them all.
RING = ((0, 0, 0), (1, 0, 0), (1, 1, 0), (1, 1, 1), (2, 1, 1), (2, 2, 1), (2, 2, 2), (0, 2, 2), (0, 0, 2))
CORNERS = 3
DEAR = 99


def unheaded_of(query):
    """Return the ascending tuple of the query's variables that are not in the head."""
    return tuple([variable for variable in variables_of(query) if variable not in query[0]])


def is_order(query, value):
    """Return whether value is a tuple that contains the number of each atom once."""
    many = len(query[1])
    return is_tuple_of(value, many) and are_numbers_of(value, many) and len(set(value)) == many


def first_scattered(query, order):
    """Return the least unheaded variable whose atoms do not stand side by side in the order, or None."""
    for variable in unheaded_of(query):
        found = [index for index, t in enumerate(order) if variable in query[1][t]]
        if found[-1] - found[0] >= len(found):
            return variable
    return None


def is_line(query, value):
    """Return whether value is a line of the query."""
    return is_order(query, value) and first_scattered(query, value) is None


def orders_of(numbers):
    """Return the list of all tuples that contain each of these numbers once."""
    if len(numbers) == 0:
        return [()]
    return [
        (number,) + order
        for index, number in enumerate(numbers)
        for order in orders_of(numbers[:index] + numbers[index + 1:])
    ]


def line_for(query):
    """Return a line of the query, or None if it has none."""
    for order in orders_of(tuple(range(len(query[1])))):
        if first_scattered(query, order) is None:
            return order
    return None


def triad_of(query):
    """Return a triad of the query, or None if it has none."""
    many = len(query[1])
    for first in range(many):
        for second in range(first + 1, many):
            for third in range(second + 1, many):
                if is_triad(query, first, second, third):
                    return (first, second, third)
    return None


def is_triad(query, first, second, third):
    """Return whether these three atoms are a triad."""
    if not are_joined(query, first, second, third):
        return False
    return are_joined(query, second, third, first) and are_joined(query, first, third, second)


def are_joined(query, s, t, third):
    """Return whether a path that has nothing of the third atom joins atoms s and t."""
    links = [variable for variable in unheaded_of(query) if variable not in query[1][third]]
    reached = [s]
    done = 0
    while done < len(reached):
        here = [variable for variable in query[1][reached[done]] if variable in links]
        for further, atom in enumerate(query[1]):
            if further not in reached and any([variable in atom for variable in here]):
                reached.append(further)
        done = done + 1
    return t in reached


def gap_for(query):
    """Return a gap for the query, or None if it has a line."""
    triad = triad_of(query)
    if triad is None:
        return None
    matches = [triangle_match(query, triad, corners) for corners in RING]
    store = store_with(query, matches)
    shared = [shared_row(query, triad, store, index, worths) for index, worths in enumerate(matches)]
    prices = rows_worth(store, shared, 1, DEAR)
    halves = rows_worth(store, shared, 1, 0)
    answer = zeros_of(query)
    return (store, prices, answer, halves, price_tree(query, store, prices, answer, number_above(prices, halves)))


def triangle_match(query, triad, corners):
    """Return the match for a triangle, a dict of its variables' worths.

    An unheaded variable tells those corners whose atom of the triad it is not in. So the rows of a match in an atom of
    the triad tell the side between the other two atoms' corners, and paths between these atoms carry what they share.
    """
    worths = zero_match(query)
    for variable in unheaded_of(query):
        for t, corner in zip(triad, corners):
            told = 0 if variable in query[1][t] else corner
            worths[variable] = worths[variable] * CORNERS + told
    return worths


def shared_row(query, triad, store, index, worths):
    """Return the place of the row that the triangle at this index, with these worths, shares with the next one."""
    t = triad[index % CORNERS]
    return (t, store[t].index(row_of(query[1][t], worths)))


def rows_worth(store, some, inside, outside):
    """Return a tuple of tuples with the one worth for some rows of the store and the other for all others."""
    return tuple([
        tuple([inside if (t, number) in some else outside for number in range(len(table))])
        for t, table in enumerate(store)
    ])


def number_above(prices, halves):
    """Return the least number whose double is above the halves' worth."""
    worth = sum([half * price for row in zip(halves, prices) for half, price in zip(row[0], row[1])])
    return worth // 2 + 1
