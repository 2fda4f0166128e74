import importlib
import inspect
import unittest

from sumlaw.desk import Desk
from sumlaw.measure import fits
from sumlaw.trees import Branch, tree_of

FUNCTIONS = {
    "numbers": {"common": ["a", "b"], "least_common": ["a", "b"]},
    "sums": {"sum_of": ["c", "pairs"], "plus": ["one", "other"], "times": ["k", "one"], "share": ["one", "name"],
             "without": ["one", "name"], "value": ["one", "values"]},
    "trees": {"tree_of": ["told"]},
    "reading": {"pieces": ["text"], "read": ["text"]},
    "inward": {"inward": ["told"]},
    "measure": {"atoms": ["told"], "depth": ["told"], "load": ["told"], "fits": ["told", "more"]},
    "shortened": {"shortened": ["told"]},
    "cases": {"put_in": ["told", "name", "top", "bottom"], "cases_of": ["told", "name"], "taken": ["told", "name"]},
    "looker": {"looked": ["told", "name", "cases"]},
    "sought": {"sought": ["told", "name", "values"]},
    "bare": {"bare": ["told"]},
    "answer": {"answer": ["told", "values"], "pick": ["told", "values"]},
    "sets": {"answers": ["told", "name", "values"], "inside": ["told_set", "number"], "nearest": ["told_set", "number"],
             "how_many": ["told_set"]},
    "unlike": {"unlike": ["one", "other", "name", "values"]},
    "desk": {"written": ["told_set"]},
}
METHODS = {"told": [], "wording": [], "loose": [], "worth": ["values"], "filled": ["values"]}
X = ("least", (0, (("x", 1),)))
KINDS = [X, ("rest", 2, X[1]), ("not", X), ("and", (X,)), ("or", (X,)), ("some", "x", X), ("all", "x", X)]


class Interface(unittest.TestCase):
    def test_functions(self):
        for module, functions in FUNCTIONS.items():
            for name, arguments in functions.items():
                there = getattr(importlib.import_module("sumlaw." + module), name)
                self.assertEqual(list(inspect.signature(there).parameters), arguments, name)

    def test_defaults(self):
        self.assertEqual(inspect.signature(fits).parameters["more"].default, 0)

    def test_methods(self):
        self.assertTrue(inspect.isclass(Branch))
        for told in KINDS:
            tree = tree_of(told)
            self.assertIsInstance(tree, Branch)
            for name, arguments in METHODS.items():
                self.assertEqual(list(inspect.signature(getattr(tree, name)).parameters), arguments, (told, name))

    def test_desk(self):
        self.assertTrue(inspect.isclass(Desk))
        self.assertEqual(list(inspect.signature(Desk).parameters), [])
        self.assertEqual(list(inspect.signature(Desk().line).parameters), ["text"])


if __name__ == "__main__":
    unittest.main()
