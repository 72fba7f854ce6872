"""The names and arguments that the interface tells, in their order."""

import importlib
import inspect
import unittest

DEFS = {
    "rests": {"divisor": ["a", "b"], "inverse": ["n", "a"]},
    "powers": {"power": ["n", "a", "e"], "power_row": ["n", "a", "e"], "is_power_row": ["n", "a", "e", "thing"]},
    "parting": {
        "primes_to": ["n"], "least_divisor": ["n"], "parted": ["n"],
        "whole_of": ["parting"], "divisors": ["parting"], "coprimes": ["parting"],
    },
    "primepapers": {"prime_paper": ["n"], "parting_paper": ["n"]},
    "lowchecks": {
        "is_prime_paper": ["thing"], "is_parting_paper": ["n", "thing"], "is_order_paper": ["n", "a", "thing"],
        "is_order": ["paper", "a", "e"],
    },
    "orders": {
        "order_from": ["n", "a", "parts"], "order": ["paper", "a"], "orders_by": ["paper"], "of_order": ["paper", "d"],
    },
    "fulls": {
        "is_full": ["paper", "a"], "full_from": ["paper", "a"], "fulls": ["paper", "many"], "how_many_full": ["paper"],
    },
}


class Interface(unittest.TestCase):

    def test_defs(self):
        for module, defs in DEFS.items():
            drawn = importlib.import_module(f"rootprime.{module}")
            for name, names in defs.items():
                told = inspect.signature(getattr(drawn, name)).parameters
                self.assertEqual(list(told), names, (module, name))
                self.assertTrue(all(one.default is inspect.Parameter.empty for one in told.values()), name)


if __name__ == "__main__":
    unittest.main()
