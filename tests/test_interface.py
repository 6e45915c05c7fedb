import importlib
import inspect
import unittest

FUNCTIONS = {
    "wholes": {"shares_of": "one other", "root_of": "number"},
    "primes": {"prime_parts": "number", "core_of": "number"},
    "rests": {"back_by": "number n", "joined_rests": "r n s m"},
    "roots": {"roots_by": "number n", "root_or_prime": "number n"},
    "signs": {"power_by": "number k n", "sign_by": "number n"},
    "places": {"is_plain": "a b c", "bad_places": "a b c", "pair_sign": "a b place"},
    "fitting": {"fitting_rests": "a b c prime k"},
    "sums": {"worth_of": "Q P", "changed_by": "Q table", "put_together": "one other", "measure_of": "table",
             "size_of": "Q", "lowest_point": "P", "vertex_of": "Q"},
    "plains": {"plain_of": "Q"},
    "descent": {"pair_point": "a b"},
    "curves": {"point_or_place": "Q", "bad_of": "Q"},
    "smalls": {"small_point": "a b c"},
    "pencils": {"point_by": "Q P m n", "numbers_of": "Q P other"},
}


class Interface(unittest.TestCase):
    def test_names_and_arguments(self):
        for module, functions in FUNCTIONS.items():
            loaded = importlib.import_module(f"conicplaces.{module}")
            for name, arguments in functions.items():
                parameters = inspect.signature(getattr(loaded, name)).parameters
                self.assertEqual(" ".join(parameters), arguments, f"{module}.{name}")
                for parameter in parameters.values():
                    self.assertIs(parameter.default, inspect.Parameter.empty, f"{module}.{name}")


if __name__ == "__main__":
    unittest.main()
