"""The names and arguments that the interface tells, in their order."""

import importlib
import inspect
import unittest

DEFS = {
    "rests": {"divisor": ["a", "b"], "inverse": ["n", "a"]},
    "powers": {"power": ["n", "a", "e"], "power_row": ["n", "a", "e"], "is_power_row": ["n", "a", "e", "thing"]},
    "parting": {
        "primes_to": ["n"], "least_divisor": ["n"], "parted": ["n"],
        "whole_of": ["parting"], "divisors": ["parting"], "coprimes": ["parting"],
    },
    "primepapers": {"prime_paper": ["n"], "parting_paper": ["n"]},
    "lowchecks": {
        "is_prime_paper": ["thing"], "is_parting_paper": ["n", "thing"], "is_order_paper": ["n", "a", "thing"],
        "is_order": ["paper", "a", "e"],
    },
    "orders": {
        "order_from": ["n", "a", "parts"], "order": ["paper", "a"], "orders_by": ["paper"], "of_order": ["paper", "d"],
    },
    "fulls": {
        "is_full": ["paper", "a"], "full_from": ["paper", "a"], "fulls": ["paper", "many"], "how_many_full": ["paper"],
    },
    "squares": {"square_roots": ["paper", "a"], "no_square": ["paper", "a"], "root_walk": ["paper", "a"]},
    "roots": {"roots": ["paper", "k", "a"]},
    "whichpower": {"which": ["paper", "b", "a", "kept"]},
    "upchecks": {"shows_roots": ["paper", "k", "a", "thing"], "shows_which": ["paper", "b", "a", "thing"]},
    "together": {"put_together": ["places"], "taken_apart": ["number", "moduli"]},
    "manyprimes": {
        "order_of": ["papers", "a"], "roots_of": ["papers", "k", "a"], "which_of": ["papers", "b", "a", "kept"],
    },
    "morechecks": {
        "shows_roots_of": ["papers", "k", "a", "thing"], "shows_which_of": ["papers", "b", "a", "thing"],
        "shows_squares": ["n", "parts", "thing"],
    },
    "twosquares": {"two_squares": ["paper"], "all_squares": ["parts"]},
    "powertables": {"powers_of": ["paper", "b"], "places_of": ["paper", "b"]},
    "papertexts": {"show": ["thing"], "read": ["text"]},
    "books": {"read_book": ["text"], "answers": ["text", "kept"]},
    "looker": {"first_wrong": ["answers"]},
}
CLASSES = {
    "kept": {"Kept": {"__init__": ["self", "most"], "steps": ["self"], "tables": ["self"]}},
    "questions": {"Question": {"asked": ["self"], "answer": ["self", "kept"]}},
    "desk": {"Desk": {"__init__": ["self"], "say": ["self", "row"]}},
}


class Interface(unittest.TestCase):

    def test_defs(self):
        for module, defs in DEFS.items():
            drawn = importlib.import_module(f"rootprime.{module}")
            for name, names in defs.items():
                self.look(getattr(drawn, name), names)

    def test_classes(self):
        for module, classes in CLASSES.items():
            drawn = importlib.import_module(f"rootprime.{module}")
            for name, methods in classes.items():
                for method, names in methods.items():
                    self.look(getattr(getattr(drawn, name), method), names)

    def look(self, told, names):
        """The arguments are those, in their order, handed in by their places; kept alone may be left out."""
        parameters = inspect.signature(told).parameters
        self.assertEqual(list(parameters), names, told)
        for name, one in parameters.items():
            self.assertIs(one.kind, inspect.Parameter.POSITIONAL_OR_KEYWORD, told)
            self.assertIs(one.default, None if name == "kept" else inspect.Parameter.empty, told)


if __name__ == "__main__":
    unittest.main()
