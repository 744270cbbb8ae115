import unittest

from heardhouse import errors

PLAIN = (
    "NoCalendar", "NoDay", "NoTerm", "NoCase", "NoPaper", "NoPerson", "NoWord", "NoNumber",
    "NoPlan", "NoMatter", "NoLaying", "NoAward", "NoPayment", "NoText",
)


class Errors(unittest.TestCase):
    def test_house_error_is_a_value_error(self):
        self.assertEqual(errors.HouseError.__bases__, (ValueError,))

    def test_each_class_stands_straight_under_house_error(self):
        for name in PLAIN + ("Twice",):
            self.assertEqual(getattr(errors, name).__bases__, (errors.HouseError,), name)

    def test_no_class_stands_under_another(self):
        classes = [getattr(errors, name) for name in PLAIN + ("Twice",)]
        for one in classes:
            for other in classes:
                self.assertEqual(issubclass(one, other), one is other)

    def test_each_class_is_defined_in_its_file(self):
        for name in PLAIN + ("Twice", "HouseError"):
            self.assertEqual(getattr(errors, name).__module__, "heardhouse.errors")
            self.assertEqual(getattr(errors, name).__name__, name)

    def test_plain_classes_are_made_of_nothing(self):
        for name in PLAIN:
            with self.assertRaises(errors.HouseError):
                raise getattr(errors, name)()

    def test_twice_has_its_number(self):
        self.assertEqual(errors.Twice(7).number, 7)
        self.assertEqual(errors.Twice(number=8).number, 8)
        self.assertIsInstance(str(errors.Twice(7)), str)

    def test_twice_wants_a_number(self):
        with self.assertRaises(TypeError):
            errors.Twice()


if __name__ == "__main__":
    unittest.main()
