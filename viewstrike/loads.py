"""Loads: what the matches of an answer can bear at once within the prices of their rows."""

from viewstrike.forms import is_ascending, is_tuple_of
from viewstrike.lines import line_for, unheaded_of
from viewstrike.stores import fits, matches_with
from viewstrike.trees import is_match_form


def are_loads(query, store, prices, answer, value):
    """Return whether value is loads for the answer that fit the prices."""
    if type(value) is not tuple or not all([is_load(store, pair) for pair in value]) or not is_ascending(value):
        return False
    matches = {match: True for match in matches_with(query, store, answer)}
    if not all([match in matches for match, _ in value]) or len({match for match, _ in value}) < len(value):
        return False
    return all([
        borne_by(value, t, number) <= price for t, table in enumerate(prices) for number, price in enumerate(table)
    ])


def is_load(store, value):
    """Return whether value is a pair of numbers of rows, one for each table, and an integer from 1 on."""
    return is_tuple_of(value, 2) and is_match_form(store, value[0]) and type(value[1]) is int and value[1] >= 1


def borne_by(loads, t, number):
    """Return the sum of the loads of the matches with row number of table t."""
    return sum([load for match, load in loads if match[t] == number])


def sum_of(loads):
    """Return the sum of the loads."""
    return sum([load for _, load in loads])


def greatest_loads(query, store, prices, answer):
    """Return loads for the answer that fit and whose sum is the cheapest price; the query has a line."""
    # Along a line, the answer's matches are the ways through a net whose steps are rows: the worths that a row has in
    # common with the tables before it are all in the one just before it. So a greatest flow reaches the cheapest price.
    steps = steps_of(query, store, answer, line_for(query))
    ends = ((0, ()), (len(query[1]), ()))
    flow = greatest_flow(steps, ends, prices)
    return loads_of(steps, ends, flow)


def steps_of(query, store, answer, line):
    """Return the list of triples of the node before a row, the node behind it, and the row's place, for the answer.

    A node is the number of tables before it along the line and the worths that the rows beside it have in common.
    """
    worths = dict(zip(query[0], answer))
    steps = []
    for position, t in enumerate(line):
        before = shared_columns(query, line, position, position - 1)
        behind = shared_columns(query, line, position, position + 1)
        for number, row in enumerate(store[t]):
            if fits(query[1][t], row, worths):
                start = (position, tuple([row[column] for column in before]))
                end = (position + 1, tuple([row[column] for column in behind]))
                steps.append((start, end, (t, number)))
    return steps


def shared_columns(query, line, position, other):
    """Return the list of the columns, at this position of the line, of the unheaded variables in common with another.

    At both ends of the line there is nothing in common.
    """
    if not 0 <= other < len(line):
        return []
    atom, neighbour = query[1][line[position]], query[1][line[other]]
    return [atom.index(variable) for variable in unheaded_of(query) if variable in atom and variable in neighbour]


def greatest_flow(steps, ends, prices):
    """Return a dict with how much flows through each row, as much as can flow in all within the prices."""
    flow = {row: 0 for _, _, row in steps}
    way = widening_way(steps, ends, prices, flow)
    while way is not None:
        many = min([room_at(prices, flow, row, turn) for row, turn in way])
        for row, turn in way:
            flow[row] = flow[row] + turn * many
        way = widening_way(steps, ends, prices, flow)
    return flow


def widening_way(steps, ends, prices, flow):
    """Return a shortest way on which more can flow, pairs of a row and 1, or -1 for going back, or None."""
    first, last = ends
    ways = {first: ()}
    nodes = [first]
    done = 0
    while done < len(nodes) and last not in ways:
        for further, row, turn in turns_at(steps, nodes[done]):
            if further not in ways and room_at(prices, flow, row, turn) > 0:
                ways[further] = ways[nodes[done]] + ((row, turn),)
                nodes.append(further)
        done = done + 1
    return ways.get(last, None)


def turns_at(steps, node):
    """Return the list of triples of a node beside this one, the row between them, and 1, or -1 for going back."""
    onward = [(end, row, 1) for start, end, row in steps if start == node]
    return onward + [(start, row, -1) for start, end, row in steps if end == node]


def room_at(prices, flow, row, turn):
    """Return how much more can flow through the row onward (1), or how much of it can be sent back (-1)."""
    return prices[row[0]][row[1]] - flow[row] if turn == 1 else flow[row]


def loads_of(steps, ends, flow):
    """Return the loads that the ways of a flow bear."""
    left = {row: flow[row] for row in flow}
    loads = []
    rows = flowing_way(steps, ends, left)
    while rows is not None:
        load = min([left[row] for row in rows])
        for row in rows:
            left[row] = left[row] - load
        loads.append((tuple([number for _, number in sorted(rows)]), load))
        rows = flowing_way(steps, ends, left)
    return tuple(sorted(loads))


def flowing_way(steps, ends, flow):
    """Return the list of the rows of a way on which something flows, or None."""
    node, last = ends
    rows = []
    while node != last:
        onward = [(end, row) for start, end, row in steps if start == node and flow[row] > 0]
        if len(onward) == 0:
            return None
        node = onward[0][0]
        rows.append(onward[0][1])
    return rows
