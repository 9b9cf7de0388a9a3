"""Houses as the document describes them: what each deed leaves or which error it raises, by the definitions alone."""

from tests.definitions import groups_by_definition, keeps_by_definition

PARTS = {"put": 3, "drop": 3, "strike": 2, "keep": 2, "release": 2, "bar": 2, "lift": 2}


def start(query):
    return (tuple([() for _ in query[1]]), (), ())


def view(query, store):
    return tuple(groups_by_definition(query, store))


def is_number(value, many):
    return type(value) is int and 0 <= value < many


def is_tuple_of_worths(value, many):
    return type(value) is tuple and len(value) == many and all(is_number(worth, 1000) for worth in value)


def first_lost(query, store, kept):
    """Return the index of the first kept answer that is not in the view, or None."""
    shown = view(query, store)
    return next((index for index, answer in enumerate(kept) if answer not in shown), None)


def with_table(store, t, rows):
    return store[:t] + (tuple(sorted(rows)),) + store[t + 1 :]


def outcome_of_row(query, rules, state, deed):
    word, t, row = deed
    store, kept, barred = state
    if not is_number(t, len(store)) or not is_tuple_of_worths(row, len(query[1][t])):
        return ("InvalidRow",)
    if word == "drop":
        if row not in store[t]:
            return ("NotThere",)
        after = with_table(store, t, set(store[t]) - {row})
        lost = first_lost(query, after, kept)
        return (after, kept, barred) if lost is None else ("AnswerLost", lost)
    if row in store[t]:
        return ("AlreadyThere",)
    if len(store[t]) == 12:
        return ("TableFull", t)
    after = with_table(store, t, set(store[t]) | {row})
    for number, rule in enumerate(rules):
        if not keeps_by_definition(query, (rule,), after):
            return ("RuleBroken", number)
    for index, answer in enumerate(barred):
        if answer in view(query, after):
            return ("AnswerBarred", index)
    return (after, kept, barred)


def outcome_of_strike(query, state, strike):
    store, kept, barred = state
    if type(strike) is not tuple:
        return ("InvalidStrike", None)
    for index, pair in enumerate(strike):
        if type(pair) is not tuple or len(pair) != 2 or not is_number(pair[0], len(store)):
            return ("InvalidStrike", index)
        if not is_number(pair[1], len(store[pair[0]])) or index > 0 and strike[index - 1] >= pair:
            return ("InvalidStrike", index)
    after = tuple([
        tuple([row for r, row in enumerate(table) if (t, r) not in strike]) for t, table in enumerate(store)
    ])
    lost = first_lost(query, after, kept)
    return (after, kept, barred) if lost is None else ("AnswerLost", lost)


def outcome_of_answer(query, state, word, answer):
    store, kept, barred = state
    if not is_tuple_of_worths(answer, len(query[0])):
        return ("InvalidAnswer",)
    if word == "release":
        return (store, tuple([a for a in kept if a != answer]), barred) if answer in kept else ("NotThere",)
    if word == "lift":
        return (store, kept, tuple([a for a in barred if a != answer])) if answer in barred else ("NotThere",)
    is_there = answer in view(query, store)
    if word == "keep" and not is_there:
        return ("NotThere",)
    if answer in kept or word == "bar" and (is_there or answer in barred):
        return ("AlreadyThere",)
    if word == "keep":
        return (store, kept + (answer,), barred) if len(kept) < 2 else ("TooMany", 2)
    return (store, kept, barred + (answer,)) if len(barred) < 8 else ("TooMany", 8)


def outcome(query, rules, state, deed):
    """Return the state that the deed leaves, or its error: a name and arguments."""
    if deed[0] in ("put", "drop"):
        return outcome_of_row(query, rules, state, deed)
    if deed[0] == "strike":
        return outcome_of_strike(query, state, deed[1])
    return outcome_of_answer(query, state, *deed)


def is_error(told):
    return type(told[0]) is str


def are_deeds(value):
    """Return whether value has the form of deeds that are done at once."""
    if type(value) is not tuple or len(value) > 60:
        return False
    for deed in value:
        if type(deed) is not tuple or len(deed) < 2 or type(deed[0]) is not str:
            return False
        if PARTS.get(deed[0], 0) != len(deed):
            return False
    return True


def outcome_of_deeds(query, rules, state, deeds):
    """Return the list of the states that deeds done at once leave, one for each, or the error."""
    if not are_deeds(deeds):
        return ("Refused", -1, None)
    states = []
    for index, deed in enumerate(deeds):
        told = outcome(query, rules, state, deed)
        if is_error(told):
            return ("Refused", index, told[0])
        state = told
        states.append(state)
    return states


def wished_index(query, state, wished):
    """Return what is wrong with wished answers: None or an index, or "right"."""
    store, kept, _ = state
    if type(wished) is not tuple or not 1 <= len(wished) <= 3:
        return None
    shown = view(query, store)
    for index, answer in enumerate(wished):
        if not is_tuple_of_worths(answer, len(query[0])) or answer not in shown or answer in kept:
            return index
        if index > 0 and wished[index - 1] >= answer:
            return index
    return "right"
