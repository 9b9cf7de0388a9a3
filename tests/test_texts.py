"""Tests of viewstrike.texts: format_query, format_store, parse_query, parse_store."""

import random
import re
import unittest

from tests.samples import KEY, LONG, LONG_RULES, PATH, grid, sample_pairs, sample_stores
from viewstrike.errors import InvalidQuery, InvalidRules, InvalidStore, ParseError
from viewstrike.queries import require_query
from viewstrike.rules import require_rules
from viewstrike.stores import require_store
from viewstrike.texts import format_query, format_store, parse_query, parse_store

PAIRS = sample_pairs(400)
TRIPLES = sample_stores(300, 20, 30)
SIGNS = "".join([chr(code) for code in range(32, 127)]) + "\t\n"
QUERY_TEXT = "atom 0 2\natom 2 1\nhead 0 1\nrule 0 2 by 0\n"
STORE_TEXT = "table\nrow 0 5\nrow 10 4\ntable\n"
SIXTY = ((), ((0, 1, 2, 3),) * 5), tuple([tuple([(k, 999, 999, 999) for k in range(988, 1000)])] * 5)


def read_query(text):
    """Return the pair that a valid text tells, or None: read by patterns and written again."""
    if not re.fullmatch("(atom( [0-9])+\n)+head( [0-9])*\n(rule [0-9] [0-9] by( [0-9])*\n)*", text):
        return None
    lines = [line.split(" ") for line in text.split("\n")]
    atoms = tuple([tuple(map(int, line[1:])) for line in lines if line[0] == "atom"])
    heads = [tuple(map(int, line[1:])) for line in lines if line[0] == "head"]
    rules = tuple([(int(w[1]), tuple(map(int, w[4:])), int(w[2])) for w in lines if w[0] == "rule"])
    try:
        require_rules(require_query((heads[0], atoms)), rules)
    except (InvalidQuery, InvalidRules):
        return None
    return ((heads[0], atoms), rules)


def read_store(text, query):
    """Return the store that a valid text tells, or None."""
    if not re.fullmatch("(table\n(row( (0|[1-9][0-9]{0,2}))+\n)*)+", text):
        return None
    tables = [part.split("\n")[1:-1] for part in text.split("table")[1:]]
    store = tuple([tuple([tuple(map(int, line.split(" ")[1:])) for line in table]) for table in tables])
    try:
        return require_store(query, (), store)
    except InvalidStore:
        return None


def wrong_line(text, is_begun):
    """Return the index of the first line up to which no valid text goes, or the number of line feeds."""
    lines = text.split("\n")[:-1]
    for index in range(len(lines)):
        if not is_begun("".join([line + "\n" for line in lines[: index + 1]])):
            return index
    return text.count("\n")


def begins_query(lines):
    """Return whether a valid text begins with these lines; a short head is enough to end the atoms."""
    return read_query(lines) is not None or read_query(lines + "head\n") is not None


def begins_store(lines, query):
    """Return whether a valid text begins with these lines; empty tables are enough to end it."""
    return any(read_store(lines + "table\n" * many, query) is not None for many in range(6))


class TextCase(unittest.TestCase):
    def check_query(self, text):
        """Compare with the reading by patterns; return the line of the error, or None."""
        told = read_query(text)
        if told is not None:
            self.assertEqual(parse_query(text), told, text)
            return None
        with self.assertRaises(ParseError, msg=text) as caught:
            parse_query(text)
        self.assertIsInstance(caught.exception, ValueError)
        line = caught.exception.line
        self.assertEqual((type(line), line), (int, wrong_line(text, begins_query)), text)
        return line

    def check_store(self, text, query):
        told = read_store(text, query)
        if told is not None:
            self.assertEqual(parse_store(text, query), told, text)
            return None
        with self.assertRaises(ParseError, msg=text) as caught:
            parse_store(text, query)
        line = caught.exception.line
        self.assertEqual((type(line), line), (int, wrong_line(text, lambda part: begins_store(part, query))), text)
        return line

    def check_query_line(self, text, line):
        self.assertEqual(self.check_query(text), line, text)

    def check_store_line(self, text, query, line):
        self.assertEqual(self.check_store(text, query), line, text)


class FormatTest(TextCase):
    def test_examples_of_the_interface(self):
        self.assertEqual(format_query(PATH, KEY), QUERY_TEXT)
        self.assertEqual(format_store((((0, 5),), ())), "table\nrow 0 5\ntable\n")

    def test_what_the_document_tells(self):
        self.assertEqual(format_query(((), ((0, 1, 2),)), ((0, (0, 2), 1),)), "atom 0 1 2\nhead\nrule 0 1 by 0 2\n")
        self.assertEqual(format_query(((2,), ((2,),)), ()), "atom 2\nhead 2\n")
        self.assertEqual(format_query(((), ((1, 2),)), ((0, (), 1),)), "atom 1 2\nhead\nrule 0 1 by\n")
        self.assertEqual(format_store(((), ((1, 20),), ())), "table\ntable\nrow 1 20\ntable\n")
        self.assertEqual(format_store((((0,), (9,), (10,), (999,)),)), "table\nrow 0\nrow 9\nrow 10\nrow 999\n")

    def test_format_and_parse_are_inverse(self):
        for query, rules in PAIRS + [(LONG, LONG_RULES)]:
            text = format_query(rules=rules, query=query)
            self.assertEqual(parse_query(text), (query, rules))
            self.assertEqual(read_query(text), (query, rules))
            self.assertEqual(format_query(*parse_query(text=text)), text)
        for query, _, store in TRIPLES + [(SIXTY[0], (), SIXTY[1])]:
            text = format_store(store=store)
            self.assertEqual(parse_store(text, query), store)
            self.assertEqual(format_store(parse_store(query=query, text=text)), text)

    def test_what_is_read_is_plain_tuples(self):
        query, rules = parse_query(QUERY_TEXT)
        store = parse_store(STORE_TEXT, PATH)
        for value in (query, query[0], query[1], query[1][0], rules, rules[0], rules[0][1], store, store[0], store[1]):
            self.assertIs(type(value), tuple)
        self.assertIs(type(parse_query(QUERY_TEXT)), tuple)


class ParseQueryTest(TextCase):
    def test_what_cannot_begin(self):
        for text in ("\n", "x\n", "head\n", "head 0\n", "rule 0 0 by\n", "atom\n", "table\n", " atom 0\n", "ATOM 0\n"):
            self.check_query_line(text, 0)
            self.check_query_line(text + QUERY_TEXT, 0)

    def test_what_is_cut(self):
        self.check_query_line("", 0)
        for text in ("a", "atom 0", "zzz", " ", "\t", "head", "0" * 20000):
            self.check_query_line(text, 0)
            self.check_query_line("atom 0 2\n" + text, 1)
            self.check_query_line(QUERY_TEXT + text, 4)
        for cut in range(len(QUERY_TEXT)):
            line = self.check_query(QUERY_TEXT[:cut])
            is_whole = cut == len("atom 0 2\natom 2 1\nhead 0 1\n")
            self.assertEqual(line, None if is_whole else QUERY_TEXT[:cut].count("\n"))

    def test_atoms(self):
        for line in (
            "atom 7", "atom 0 0", "atom 0 1 2 3 4", "atom -1", "atom +1", "atom 00", "atom 01", "atom 1.", "atom 1 ",
            "atom  1", "atom\t1", "atom 1\t", " atom 1", "atom", "atom ", "atom a", "atom 10", "atoms 1", "Atom 1", "",
            "atom 0,1", "atom 0 1 0", "row 0", "atom head", "atom 1 by 2", "atom 1_0", "atom 0x1", "atom " + "1" * 5000,
        ):
            self.check_query_line(line + "\nhead\n", 0)
            self.check_query_line("atom 0\n" + line + "\nhead\n", 1)
        self.check_query_line("atom 6 0 3 1\nhead\n", None)
        self.check_query_line("atom 0\n" * 5 + "head\n", None)
        self.check_query_line("atom 0\n" * 6 + "head\n", 5)
        self.check_query_line("atom 0\n" * 4, 4)
        self.check_query_line("atom 0\n" * 5, 5)
        self.check_query_line("atom 0\n" * 5000, 5)

    def test_heads(self):
        for line in (
            "head 1 0", "head 0 0", "head 3", "head 0 3", "head -0", "head 00", "head  0", "head 0 ", "head ",
            "head\t0",
            "Head", "heads", "head a", "", " head", "head 7", "head 0 1 2 2", "head 10", "rule 0 0 by 2", "table",
        ):
            self.check_query_line("atom 0 2\natom 2 1\n" + line + "\n", 2)
        for line in ("head", "head 0", "head 0 1 2", "head 1 2"):
            self.check_query_line("atom 0 2\natom 2 1\n" + line + "\n", None)
        self.check_query_line("atom 0\nhead\nhead\n", 2)
        self.check_query_line("atom 0\nhead\natom 1\n", 2)
        self.check_query_line("atom 0\nhead\n\n", 2)

    def test_rules(self):
        before = "atom 0 2 4\natom 2 1\nhead 0 1\n"
        for line in (
            "rule 0 2 by 0", "rule 0 2 by", "rule 0 2 by 0 4", "rule 1 1 by 2", "rule 1 2 by 1", "rule 0 4 by 0 2",
        ):
            self.check_query_line(before + line + "\n", None)
            self.check_query_line(before + (line + "\n") * 6, None)
            self.check_query_line(before + (line + "\n") * 7, 9)
        for line in (
            "rule 0 2 by 2", "rule 2 2 by 0", "rule 0 1 by 0", "rule 0 2 by 1", "rule 0 2 by 4 0", "rule 0 2 by 0 0",
            "rule 0 2", "rule 0 2 0", "rule 0 by 0", "rule by", "rule", "rule 0 2 by ", "rule 0 2 by  0",
            "rule 0 2  by",
            "rule  0 2 by", "rule 0 2 By 0", "rule 0 2 by 0 ", "rule 00 2 by", "rule 0 02 by", "rule 0 2 by 00", "",
            "rule -0 2 by", "rule 0 2 by 0 by", "rule 0 2 by\t0", "rule a 2 by", "rule 0 b by", "rule 0 2 by c",
            "rules",
            "head 0 1", "atom 0 2", "row 0", "RULE 0 2 by", " rule 0 2 by", "rule 5 2 by", "rule 0 7 by", "rule  ",
            "rule 0 2 by 0 2 4", "rule   by", "rule 0 " + "2" * 9000 + " by",
        ):
            self.check_query_line(before + line + "\n", 3)
            self.check_query_line(before + "rule 0 2 by 0\n" + line + "\nrule 0 2 by 0\n", 4)

    def test_changed_texts(self):
        some = random.Random(31)
        lines = [self.check_query(changed(some, format_query(*some.choice(PAIRS)))) for _ in range(6000)]
        self.assertTrue(lines.count(None) >= 100 and len(set(lines)) >= 9)

    def test_texts_of_all_kinds(self):
        some = random.Random(32)
        for _ in range(2000):
            self.check_query("".join(some.choices(SIGNS, k=some.randint(0, 12))))
            words = ["atom", "head", "rule", "by", " ", " 0", " 1", "\n", "\n", "0", " 2", "\t"]
            self.check_query("".join(some.choices(words, k=some.randint(0, 20))))

    def test_long_texts(self):
        for text in (
            "\n" * 20000, "a" * 20000, "atom 0\n" * 2857, "atom" + " 0" * 9998, QUERY_TEXT + "\n" * 19900, " " * 20000,
            "atom 0\nhead\n" + "rule 0 0 by\n" * 1600, "atom 0 1\nhead\n" + "rule 0 0 by 1\n" * 1400, "\t" * 20000,
            "atom " + "9" * 19000 + "\n", "atom 0\nhead" + " 0" * 9990 + "\n", "0\n" * 10000,
        ):
            self.assertIsNotNone(self.check_query(text))


def changed(some, text):
    """Return the text with one or two changes: of a line, a character, or its end."""
    for _ in range(some.choice((1, 1, 2))):
        lines = text.split("\n")
        k, place = some.randrange(len(lines)), some.randrange(len(text) + 1)
        way = some.randrange(10)
        if way == 0:
            text = "\n".join(lines[:k] + lines[k + 1 :])
        elif way == 1:
            text = "\n".join(lines[:k] + lines[k : k + 1] + lines[k:])
        elif way == 2:
            text = "\n".join(some.sample(lines[:-1], len(lines) - 1) + [""])
        elif way == 3:
            text = text[:place]
        elif way == 4:
            text = text[:place] + some.choice(SIGNS) + text[place + 1 :]
        elif way == 5:
            further = some.choice(("0", "1", " ", "\n", "\t", "-", "+", " 0", "row 1\n", "atom 0\n"))
            text = text[:place] + further + text[place:]
        elif way == 6:
            text = text[:place] + text[place + 1 :]
        elif way == 7:
            text = "\n".join(lines[:k] + ["", some.choice(lines)] + lines[k:])
        elif way == 8:
            text = text[:place] + some.choice("0123456789") + text[place + 1 :]
        else:
            other = some.randrange(len(lines))
            lines[k], lines[other] = lines[other], lines[k]
            text = "\n".join(lines)
    return text


class ParseStoreTest(TextCase):
    def test_tables_too_few_or_too_many(self):
        self.check_store_line("", PATH, 0)
        self.check_store_line("table\n", PATH, 1)
        self.check_store_line("table\ntable\n", PATH, None)
        self.check_store_line("table\ntable\ntable\n", PATH, 2)
        self.check_store_line("table\nrow 1 1\nrow 1 2\ntable\nrow 0 0\ntable\n", PATH, 5)
        self.check_store_line("table\nrow 1 1\nrow 1 2\n", PATH, 3)
        self.check_store_line("table\n" * 5000, LONG, 5)
        self.assertEqual(parse_store("table\n" * 5, LONG), ((), (), (), (), ()))

    def test_rows(self):
        for line in (
            "row 1", "row 1 2 3", "row", "row ", "row  1 2", "row 1  2", "row 1 2 ", " row 1 2", "row 01 2", "row 1 02",
            "row 00 2", "row +1 2", "row -1 2", "row 1 -0", "row 1 1000", "row 1000 1", "row 1,2", "row 1 a", "Row 1 2",
            "rows 1 2", "row\t1 2", "row 1\t2", "row 1 2\t", "", "table ", "tables", "Table", " table", "table 0",
            "head",
            "row 1_0 2", "row 1 2.0", "row 1 0x2", "row " + "1" * 5000 + " 2", "row 1 2 row", "tablerow 1 2",
        ):
            self.check_store_line("table\n" + line + "\ntable\n", PATH, 1)
            self.check_store_line("table\ntable\nrow 0 0\n" + line + "\n", PATH, 3)
        self.check_store_line("row 1 2\ntable\ntable\n", PATH, 0)
        self.check_store_line("table\nrow 0 999\nrow 999 0\ntable\n", PATH, None)

    def test_rows_that_fall_or_stand_twice(self):
        self.check_store_line("table\nrow 1 1\nrow 1 1\ntable\n", PATH, 2)
        self.check_store_line("table\nrow 1 2\nrow 1 1\ntable\n", PATH, 2)
        self.check_store_line("table\nrow 2 0\nrow 10 0\ntable\nrow 0 0\n", PATH, None)
        self.check_store_line("table\nrow 10 0\nrow 2 0\ntable\n", PATH, 2)
        self.check_store_line("table\nrow 999 999\ntable\nrow 0 0\n", PATH, None)
        self.check_store_line("table\nrow 999 999\nrow 999 999\ntable\n", PATH, 2)

    def test_twelve_and_thirteen_rows(self):
        rows = ["row 0 " + str(number) + "\n" for number in range(13)]
        self.check_store_line("table\n" + "".join(rows[:12]) + "table\n" + "".join(rows[1:]), PATH, None)
        self.check_store_line("table\n" + "".join(rows) + "table\n", PATH, 13)
        self.check_store_line("table\ntable\n" + "".join(rows), PATH, 14)
        self.check_store_line("table\n" + "".join(["row 0 " + str(n) + "\n" for n in range(1000)]), PATH, 13)

    def test_what_is_cut(self):
        for cut in range(len(STORE_TEXT)):
            line = self.check_store(STORE_TEXT[:cut], PATH)
            self.assertEqual(line, STORE_TEXT[:cut].count("\n"))
        for text in ("x", "row 1 2", "table", " ", "\t"):
            self.check_store_line(STORE_TEXT + text, PATH, 4)

    def test_any_table_may_be_empty_and_rules_do_not_count(self):
        self.check_store_line("table\nrow 0 1\nrow 0 2\ntable\nrow 1 0\n", PATH, None)
        query, store = grid((3, 0, 2), ())
        self.check_store_line(format_store(store), query, None)

    def test_changed_texts(self):
        some = random.Random(33)
        lines = []
        for _ in range(5000):
            query, _, store = some.choice(TRIPLES)
            lines.append(self.check_store(changed(some, format_store(store)), query))
        self.assertTrue(lines.count(None) >= 100 and len(set(lines)) >= 12)

    def test_stores_of_other_queries(self):
        for (query, _, store), (other, _, _) in zip(TRIPLES, TRIPLES[1:]):
            self.check_store(format_store(store), other)

    def test_texts_of_all_kinds(self):
        some = random.Random(34)
        for _ in range(2000):
            self.check_store("".join(some.choices(SIGNS, k=some.randint(0, 12))), PATH)
            words = ["table", "table\n", "row", " ", " 0", " 1", "\n", "\n", "0", "row 1 2\n", "\t", "table\nrow 0 0\n"]
            self.check_store("".join(some.choices(words, k=some.randint(0, 12))), PATH)

    def test_long_texts(self):
        for text in (
            "\n" * 20000, "a" * 20000, "table\n" * 3333, "table\nrow" + " 0" * 9900 + "\n", STORE_TEXT + "\n" * 19900,
            "table\nrow " + "9" * 19900 + " 1\n", "table\n" + "row 0 0\n" * 2400, " " * 20000, "\t" * 20000, QUERY_TEXT,
        ):
            self.assertIsNotNone(self.check_store(text, PATH))


if __name__ == "__main__":
    unittest.main()
