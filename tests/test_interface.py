import importlib
import inspect
import unittest

FUNCTIONS = {
    "wholes": {"shares_of": "one other", "root_of": "number"},
    "primes": {"prime_parts": "number", "core_of": "number"},
    "rests": {"back_by": "number n", "joined_rests": "r n s m"},
    "roots": {"roots_by": "number n", "root_or_prime": "number n"},
    "signs": {"power_by": "number k n", "sign_by": "number n"},
    "places": {"is_plain": "a b c", "bad_places": "a b c", "pair_sign": "a b place"},
    "fitting": {"fitting_rests": "a b c prime k"},
    "sums": {"worth_of": "Q P", "changed_by": "Q table", "put_together": "one other", "measure_of": "table",
             "size_of": "Q", "lowest_point": "P", "vertex_of": "Q"},
    "plains": {"plain_of": "Q"},
    "descent": {"pair_point": "a b"},
    "curves": {"point_or_place": "Q", "bad_of": "Q"},
    "smalls": {"small_point": "a b c"},
    "pencils": {"point_by": "Q P m n", "numbers_of": "Q P other"},
    "meets": {"line_met": "Q line"},
    "alikes": {"standard_of": "Q P", "alike_by": "one other"},
    "notes": {"show_sum": "Q", "read_sum": "text"},
    "desk": {"Desk": ""},
}


class Interface(unittest.TestCase):
    def test_names_and_arguments(self):
        for module, functions in FUNCTIONS.items():
            loaded = importlib.import_module(f"conicplaces.{module}")
            for name, arguments in functions.items():
                parameters = inspect.signature(getattr(loaded, name)).parameters
                self.assertEqual(" ".join(parameters), arguments, f"{module}.{name}")
                for parameter in parameters.values():
                    self.assertIs(parameter.default, inspect.Parameter.empty, f"{module}.{name}")

    def test_the_desk(self):
        say = importlib.import_module("conicplaces.desk").Desk().say
        self.assertEqual([*inspect.signature(say).parameters], ["row"])
        self.assertEqual(say(row="curve a xx = 0"), "ok")


if __name__ == "__main__":
    unittest.main()
