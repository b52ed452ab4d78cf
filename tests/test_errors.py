import unittest

from patchsquare import errors

PLAIN = ["NoText", "TooLong", "NoInverse", "NoLabel", "NoMarks", "NoSquare"]
FIELDS = {"NoSign": "place", "NoMend": "block", "NoPicture": "row"}


def refusals():
    return [getattr(errors, name) for name in PLAIN + list(FIELDS)]


class TestErrors(unittest.TestCase):
    def test_the_base_is_a_value_error(self):
        self.assertTrue(issubclass(errors.SquareError, ValueError))

    def test_each_refusal_stands_under_the_base(self):
        for refusal in refusals():
            with self.subTest(refusal=refusal):
                self.assertTrue(issubclass(refusal, errors.SquareError))
                self.assertTrue(issubclass(refusal, ValueError))
                self.assertIsNot(refusal, errors.SquareError)

    def test_no_refusal_stands_under_another(self):
        for one in refusals():
            for other in refusals():
                if one is not other:
                    with self.subTest(one=one, other=other):
                        self.assertFalse(issubclass(one, other))

    def test_the_names_are_the_classes_own(self):
        self.assertEqual([refusal.__name__ for refusal in refusals()], PLAIN + list(FIELDS))

    def test_the_told_field_is_set_when_it_is_made(self):
        for name, field in FIELDS.items():
            for value in (0, 1, 7, 299):
                with self.subTest(name=name, value=value):
                    self.assertEqual(getattr(getattr(errors, name)(value), field), value)

    def test_each_object_has_its_own_field(self):
        for name, field in FIELDS.items():
            first = getattr(errors, name)(3)
            second = getattr(errors, name)(4)
            self.assertEqual((getattr(first, field), getattr(second, field)), (3, 4))

    def test_a_refusal_is_taken_by_the_base(self):
        for name in PLAIN:
            with self.assertRaises(errors.SquareError):
                raise getattr(errors, name)("words")
        for name in FIELDS:
            with self.assertRaises(errors.SquareError):
                raise getattr(errors, name)(0)


if __name__ == "__main__":
    unittest.main()
