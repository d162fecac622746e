"""All that the interface names is there, and takes its arguments by place."""

import importlib
import inspect
import unittest

FUNCTIONS = {
    "nets": {
        "is_name": 1, "is_times": 1, "is_net": 1, "order_of": 1, "ties_at": 2, "only": 2, "is_thin": 2, "left_out": 2,
        "total": 1,
    },
    "ways": {"length_of": 2, "far": 3, "way_of": 3, "round_of": 1},
    "prices": {"is_fair": 2, "prices_from": 3},
    "thinning": {"is_within": 3, "thinned": 2, "greedy_paper": 2, "ways_paper": 3},
    "checking": {"lets_greedy": 4, "lets_ways": 4},
    "trees": {"least_tree": 1, "tree_paper": 1, "lets_tree": 3},
    "rooted": {"is_tree_from": 3, "tree_from": 2, "light_tree": 3},
    "pairs": {"keeps_pairs": 4, "thinned_for_pairs": 3, "pairs_paper": 3},
    "pairchecking": {"lets_pairs": 5},
    "steady": {"steady_thinned": 3, "breaking_paper": 3},
    "breakchecking": {"lets_breaking": 5},
    "least": {"least_thin": 2},
    "cases": {"shows": 4, "is_least": 3},
    "twice": {"product": 2, "composed": 5, "is_no_stricter": 2},
    "keeper": {"Keeper": 1, "taken_up": 2},
    "nettexts": {"shown": 1, "read_net": 1},
    "desk": {"Desk": 1},
}
METHODS = {
    ("keeper", "Keeper"): {"come": 1, "go": 1, "lay": 3, "take": 2, "net": 0, "thin": 0, "far": 2, "lines": 0},
    ("desk", "Desk"): {"say": 1},
}


def takes(test, function, many):
    """It takes just so many arguments by place."""
    inspect.signature(function).bind(*[None] * many)
    with test.assertRaises(TypeError):
        inspect.signature(function).bind(*[None] * (many + 1))


class Interface(unittest.TestCase):
    def test_names_and_arguments(self):
        for module, functions in FUNCTIONS.items():
            found = importlib.import_module(f"thinnet.{module}")
            for name, many in functions.items():
                function = getattr(found, name)
                self.assertEqual(function.__module__, found.__name__)
                takes(self, function, many)

    def test_methods(self):
        for (module, name), methods in METHODS.items():
            kept = getattr(importlib.import_module(f"thinnet.{module}"), name)((3, 2))
            for method, many in methods.items():
                takes(self, getattr(kept, method), many)


if __name__ == "__main__":
    unittest.main()
