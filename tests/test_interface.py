"""The names and arguments that the interface tells, in their order."""

import importlib
import inspect
import unittest

DEFS = {
    "rests": {"divisor": ["a", "b"], "inverse": ["n", "a"]},
    "powers": {"power": ["n", "a", "e"], "power_row": ["n", "a", "e"], "is_power_row": ["n", "a", "e", "thing"]},
    "parting": {
        "primes_to": ["n"], "least_divisor": ["n"], "parted": ["n"],
        "whole_of": ["parting"], "divisors": ["parting"], "coprimes": ["parting"],
    },
}


class Interface(unittest.TestCase):

    def test_defs(self):
        for module, defs in DEFS.items():
            drawn = importlib.import_module(f"rootprime.{module}")
            for name, names in defs.items():
                told = inspect.signature(getattr(drawn, name)).parameters
                self.assertEqual(list(told), names, (module, name))
                self.assertTrue(all(one.default is inspect.Parameter.empty for one in told.values()), name)


if __name__ == "__main__":
    unittest.main()
