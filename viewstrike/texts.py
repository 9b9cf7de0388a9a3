"""Texts: writing queries, rules and stores down, and reading them."""

from viewstrike.errors import ParseError
from viewstrike.forms import is_ascending_choice
from viewstrike.queries import MOST_ATOMS, is_atom, variables_of
from viewstrike.rules import MOST_RULES, is_rule
from viewstrike.stores import MOST_ROWS, is_row

LONGEST_NUMBER = 3


def format_query(query, rules):
    """Return the text of a query with rules."""
    head, atoms = query
    lines = [line_of(["atom"], atom) for atom in atoms] + [line_of(["head"], head)]
    return "".join(lines + [line_of(["rule", str(t), str(y), "by"], xs) for t, xs, y in rules])


def format_store(store):
    """Return the text of a store."""
    return "".join([line_of(["table"], ()) + "".join([line_of(["row"], row) for row in table]) for table in store])


def line_of(words, numbers):
    """Return the line of these words and, behind them, the numbers."""
    return " ".join(words + [str(number) for number in numbers]) + "\n"


def parse_query(text):
    """Return the pair of the query and the rules that the text tells; otherwise raise ParseError."""
    atoms, head, rules = (), None, ()
    for index, line in enumerate(whole_lines(text)):
        words = line.split(" ")
        if head is not None:
            rule = rule_of(words)
            if len(rules) == MOST_RULES or not is_rule((head, atoms), rule):
                raise ParseError(index)
            rules = rules + (rule,)
        elif words[0] == "atom" and len(atoms) < MOST_ATOMS and is_atom(numbers_of(words[1:])):
            atoms = atoms + (numbers_of(words[1:]),)
        elif words[0] == "head" and len(atoms) > 0 and is_head_for(atoms, numbers_of(words[1:])):
            head = numbers_of(words[1:])
        else:
            raise ParseError(index)
    if head is None or is_cut(text):
        raise ParseError(text.count("\n"))
    return ((head, atoms), rules)


def parse_store(text, query):
    """Return the store of the query that the text tells; otherwise raise ParseError."""
    tables = ()
    for index, line in enumerate(whole_lines(text)):
        words = line.split(" ")
        if words == ["table"] and len(tables) < len(query[1]):
            tables = tables + ((),)
        elif words[0] == "row" and len(tables) > 0 and can_follow(query, tables, numbers_of(words[1:])):
            tables = tables[:-1] + (tables[-1] + (numbers_of(words[1:]),),)
        else:
            raise ParseError(index)
    if len(tables) < len(query[1]) or is_cut(text):
        raise ParseError(text.count("\n"))
    return tables


def whole_lines(text):
    """Return the list of the lines of the text, without what stands behind the last line feed."""
    return text.split("\n")[:-1]


def is_cut(text):
    """Return whether something stands behind the last line feed of the text."""
    return text.split("\n")[-1] != ""


def numbers_of(words):
    """Return the tuple of the integers that the words write, with None for each word that is none."""
    return tuple([number_of(word) for word in words])


def number_of(word):
    """Return the integer that the word writes, or None; one that is too long to be a right one counts as none."""
    if not (word.isascii() and word.isdigit()) or len(word) > LONGEST_NUMBER or len(word) > 1 and word[0] == "0":
        return None
    return int(word)


def rule_of(words):
    """Return the rule that the words of a line tell, with None for numbers that are none, or None."""
    if len(words) < 4 or words[0] != "rule" or words[3] != "by":
        return None
    return (number_of(words[1]), numbers_of(words[4:]), number_of(words[2]))


def is_head_for(atoms, value):
    """Return whether value is a head for these atoms."""
    return is_ascending_choice(value, variables_of(((), atoms)))


def can_follow(query, tables, value):
    """Return whether value is a row that can stand in the last table behind its rows so far."""
    table = tables[-1]
    if len(table) == MOST_ROWS or not is_row(query, len(tables) - 1, value):
        return False
    return len(table) == 0 or value > table[-1]
