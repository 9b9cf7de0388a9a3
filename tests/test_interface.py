"""Tests that what the interface lists is defined in its file, with its parameter names."""

import doctest
import importlib
import inspect
import pathlib
import unittest

README = pathlib.Path(__file__).resolve().parent.parent / "README.md"

LISTED = {
    "viewstrike.queries": {"require_query": ["value"], "variables_of": ["query"]},
    "viewstrike.rules": {
        "require_rules": ["query", "value"],
        "closure_of": ["query", "rules", "some"],
        "chain_for": ["query", "rules", "some", "wanted"],
        "settled_of": ["query", "rules"],
        "open_of": ["query", "rules"],
        "parts_of": ["query", "rules"],
        "does_cover": ["query", "rules", "t", "part"],
        "is_headed": ["query", "rules"],
    },
    "viewstrike.stores": {
        "require_store": ["query", "rules", "value"],
        "does_keep": ["query", "rules", "store"],
        "matches_of": ["query", "store"],
        "answer_of": ["query", "store", "match"],
        "view_of": ["query", "store"],
    },
    "viewstrike.strikes": {
        "require_strike": ["store", "value"],
        "without_rows": ["store", "strike"],
        "struck_by": ["query", "store", "strike"],
        "takes_out": ["query", "store", "strike", "wished"],
        "loss_of": ["query", "store", "strike", "wished"],
    },
    "viewstrike.singles": {
        "single_strike": ["query", "store", "answer", "t"],
        "single_losses": ["query", "store", "answer"],
        "best_table": ["query", "store", "answer"],
    },
    "viewstrike.partings": {
        "parting_for": ["query", "rules"],
        "parting_for_table": ["query", "rules", "t"],
    },
    "viewstrike.least": {
        "least_loss": ["query", "store", "wished", "kept"],
        "best_strike": ["query", "store", "wished", "kept"],
    },
    "viewstrike.keeps": {
        "staying_strike": ["query", "store", "wished", "kept"],
        "surely_gone": ["query", "store", "wished"],
    },
    "viewstrike.claims": {"require_claim": ["claim"], "decide": ["claim"]},
    "viewstrike.checker": {"first_fault": ["certificate"]},
}


class InterfaceTest(unittest.TestCase):
    def test_functions_are_defined_where_they_are_listed(self):
        for path, functions in LISTED.items():
            module = importlib.import_module(path)
            for name, parameters in functions.items():
                function = getattr(module, name)
                self.assertTrue(inspect.isfunction(function), name)
                self.assertEqual(function.__module__, path, name)
                self.assertEqual(list(inspect.signature(function).parameters), parameters, name)

    def test_the_examples_of_the_readme(self):
        told = doctest.testfile(str(README), module_relative=False, encoding="utf-8")
        self.assertEqual(told.failed, 0)
        self.assertGreater(told.attempted, 0)


if __name__ == "__main__":
    unittest.main()
