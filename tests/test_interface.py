"""Tests that what the interface lists is defined in its file, with its parameter names."""

import doctest
import importlib
import inspect
import pathlib
import unittest

README = pathlib.Path(__file__).resolve().parent.parent / "README.md"

LISTED = {
    "viewstrike.queries": {"require_query": ["value"], "variables_of": ["query"]},
    "viewstrike.rules": {
        "require_rules": ["query", "value"],
        "closure_of": ["query", "rules", "some"],
        "chain_for": ["query", "rules", "some", "wanted"],
        "settled_of": ["query", "rules"],
        "open_of": ["query", "rules"],
        "parts_of": ["query", "rules"],
        "does_cover": ["query", "rules", "t", "part"],
        "is_headed": ["query", "rules"],
    },
    "viewstrike.stores": {
        "require_store": ["query", "rules", "value"],
        "does_keep": ["query", "rules", "store"],
        "matches_of": ["query", "store"],
        "answer_of": ["query", "store", "match"],
        "view_of": ["query", "store"],
    },
    "viewstrike.strikes": {
        "require_strike": ["store", "value"],
        "without_rows": ["store", "strike"],
        "struck_by": ["query", "store", "strike"],
        "takes_out": ["query", "store", "strike", "wished"],
        "loss_of": ["query", "store", "strike", "wished"],
    },
    "viewstrike.singles": {
        "single_strike": ["query", "store", "answer", "t"],
        "single_losses": ["query", "store", "answer"],
        "best_table": ["query", "store", "answer"],
    },
    "viewstrike.partings": {
        "parting_for": ["query", "rules"],
        "parting_for_table": ["query", "rules", "t"],
    },
    "viewstrike.least": {
        "least_loss": ["query", "store", "wished", "kept"],
        "best_strike": ["query", "store", "wished", "kept"],
    },
    "viewstrike.keeps": {
        "staying_strike": ["query", "store", "wished", "kept"],
        "surely_gone": ["query", "store", "wished"],
    },
    "viewstrike.claims": {"require_claim": ["claim"], "decide": ["claim"]},
    "viewstrike.checker": {"first_fault": ["certificate"]},
    "viewstrike.texts": {
        "format_query": ["query", "rules"],
        "format_store": ["store"],
        "parse_query": ["text"],
        "parse_store": ["text", "query"],
    },
    "viewstrike.prices": {
        "require_prices": ["store", "value"],
        "price_of": ["prices", "strike"],
        "cheapest": ["query", "store", "prices", "answer"],
        "cheapest_strike": ["query", "store", "prices", "answer"],
        "is_price_tree": ["query", "store", "prices", "answer", "n", "value"],
        "price_tree": ["query", "store", "prices", "answer", "n"],
    },
    "viewstrike.loads": {
        "are_loads": ["query", "store", "prices", "answer", "value"],
        "sum_of": ["loads"],
        "greatest_loads": ["query", "store", "prices", "answer"],
    },
    "viewstrike.lines": {
        "is_line": ["query", "value"],
        "line_for": ["query"],
        "triad_of": ["query"],
        "gap_for": ["query"],
    },
    "viewstrike.deciding": {
        "is_lot": ["query", "store", "answer", "place", "value"],
        "least_lot": ["query", "store", "answer", "place"],
        "sizes_of": ["query", "store", "answer"],
    },
    "viewstrike.priceclaims": {"require_price_claim": ["claim"], "decide_price": ["claim"]},
    "viewstrike.pricechecker": {"first_price_fault": ["certificate"]},
}
HOUSE = {
    "__init__": ["query", "rules"],
    "put": ["t", "row"],
    "drop": ["t", "row"],
    "strike": ["strike"],
    "keep": ["answer"],
    "release": ["answer"],
    "bar": ["answer"],
    "lift": ["answer"],
    "store": [],
    "view": [],
    "kept": [],
    "barred": [],
    "deeds": [],
    "losses": ["answer"],
    "least": ["wished"],
    "paper_of": ["wished"],
    "plan": ["wished"],
    "sizes": ["answer"],
    "undo": [],
    "twin": [],
    "__len__": [],
    "__eq__": ["other"],
    "__iadd__": ["other"],
}


class InterfaceTest(unittest.TestCase):
    def test_functions_are_defined_where_they_are_listed(self):
        for path, functions in LISTED.items():
            module = importlib.import_module(path)
            for name, parameters in functions.items():
                function = getattr(module, name)
                self.assertTrue(inspect.isfunction(function), name)
                self.assertEqual(function.__module__, path, name)
                self.assertEqual(list(inspect.signature(function).parameters), parameters, name)

    def test_the_methods_of_houses_are_defined_in_the_class_itself(self):
        house = importlib.import_module("viewstrike.house").House
        self.assertEqual(house.__module__, "viewstrike.house")
        for name, parameters in HOUSE.items():
            function = vars(house)[name]
            self.assertTrue(inspect.isfunction(function), name)
            self.assertEqual(list(inspect.signature(function).parameters), ["self"] + parameters, name)

    def test_the_examples_of_the_readme(self):
        told = doctest.testfile(str(README), module_relative=False, encoding="utf-8")
        self.assertEqual(told.failed, 0)
        self.assertGreater(told.attempted, 0)


if __name__ == "__main__":
    unittest.main()
