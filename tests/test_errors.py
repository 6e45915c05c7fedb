import unittest

from conicplaces import errors

PLAIN = ("NoNumber", "NoSign", "NotPlain", "NoPlace", "NoVertex", "OffCurve", "NoPair", "NoLine", "NoText",
         "NoRow", "NoName")
FIELDS = {"NoBack": ("shared", 6), "NoJoin": ("shared", 4), "BadPlace": ("place", 0), "Flat": ("vertex", (0, 0, 1))}


class Classes(unittest.TestCase):
    def test_all_fifteen_are_told(self):
        self.assertEqual(len(PLAIN) + len(FIELDS), 15)
        for name in (*PLAIN, *FIELDS):
            self.assertTrue(isinstance(getattr(errors, name), type), name)

    def test_the_one_above_all(self):
        self.assertEqual(errors.CurveError.__bases__, (ValueError,))

    def test_each_stands_straight_under_it(self):
        for name in (*PLAIN, *FIELDS):
            self.assertEqual(getattr(errors, name).__bases__, (errors.CurveError,), name)
            self.assertTrue(issubclass(getattr(errors, name), ValueError), name)

    def test_none_stands_under_another(self):
        for name in (*PLAIN, *FIELDS):
            for other in (*PLAIN, *FIELDS):
                if name != other:
                    self.assertFalse(issubclass(getattr(errors, name), getattr(errors, other)), (name, other))

    def test_each_is_taken_as_any_refusal(self):
        for name in PLAIN:
            with self.assertRaises(errors.CurveError):
                raise getattr(errors, name)("words")
        for name, (_, value) in FIELDS.items():
            with self.assertRaises(errors.CurveError):
                raise getattr(errors, name)(value)


class Fields(unittest.TestCase):
    def test_set_when_made(self):
        for name, (field, value) in FIELDS.items():
            self.assertEqual(getattr(getattr(errors, name)(value), field), value, name)

    def test_each_object_has_its_own(self):
        first, second = errors.NoBack(2), errors.NoBack(3)
        self.assertEqual((first.shared, second.shared), (2, 3))

    def test_never_left_out(self):
        for name in FIELDS:
            with self.assertRaises(TypeError):
                getattr(errors, name)()

    def test_words_for_great_numbers(self):
        great = 10 ** 6000
        for name, value in (("NoBack", great), ("NoJoin", great), ("BadPlace", great), ("Flat", (great, 1, 0))):
            self.assertTrue(str(getattr(errors, name)(value)), name)


if __name__ == "__main__":
    unittest.main()
