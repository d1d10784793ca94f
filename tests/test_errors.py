import unittest

from fairsearch import errors

UNDER = {
    "NoText": ValueError,
    "NotPlain": ValueError,
    "NoRow": ValueError,
    "TooMany": ArithmeticError,
    "Missing": LookupError,
    "ShelfError": Exception,
    "Taken": errors.ShelfError,
    "Used": errors.ShelfError,
    "NoProgram": errors.ShelfError,
    "NoGoal": errors.ShelfError,
    "NoDeed": errors.ShelfError,
}

FIELDS = {
    "NoText": {"text": "((1"},
    "NotPlain": {"kind": "unlike"},
    "NoRow": {"at": 3},
    "TooMany": {"limit": 200},
    "Missing": {"name": "list"},
    "Taken": {"name": "list"},
    "Used": {"name": "list", "by": "append"},
    "NoProgram": {"coming": ("b", "a")},
    "NoGoal": {"title": "first"},
    "NoDeed": {"thing": ["put", {"a": None}]},
}


def told(name):
    return getattr(errors, name)


class Classes(unittest.TestCase):
    def test_each_stands_right_under_its_class(self):
        for name, under in UNDER.items():
            with self.subTest(name):
                self.assertEqual(told(name).__bases__, (under,))
                self.assertEqual(told(name).__module__, "fairsearch.errors")

    def test_none_stands_under_another_but_as_told(self):
        for name in UNDER:
            for other in UNDER:
                shelf = other == "ShelfError" and UNDER[name] == errors.ShelfError
                with self.subTest(name=name, other=other):
                    self.assertEqual(issubclass(told(name), told(other)), name == other or shelf)

    def test_the_refusals_of_a_shelf_are_none_of_the_others(self):
        for name, under in UNDER.items():
            for other in (ValueError, ArithmeticError, LookupError):
                with self.subTest(name=name, other=other):
                    self.assertEqual(issubclass(told(name), other), under == other)

    def test_a_shelf_error_has_no_fields(self):
        with self.assertRaises(errors.ShelfError):
            raise errors.ShelfError()


class Fields(unittest.TestCase):
    def test_every_class_with_fields_is_here(self):
        self.assertEqual(set(FIELDS), set(UNDER) - {"ShelfError"})

    def check(self, refusal, fields):
        self.assertEqual(vars(refusal), fields)
        for field, value in fields.items():
            self.assertIs(getattr(refusal, field), value)

    def test_by_place(self):
        for name, fields in FIELDS.items():
            with self.subTest(name):
                self.check(told(name)(*fields.values()), fields)

    def test_by_name(self):
        for name, fields in FIELDS.items():
            with self.subTest(name):
                self.check(told(name)(**fields), fields)

    def test_by_name_in_another_order(self):
        self.check(errors.Used(by="append", name="list"), {"name": "list", "by": "append"})

    def test_raised_and_caught(self):
        for name, fields in FIELDS.items():
            with self.subTest(name), self.assertRaises(UNDER[name]) as caught:
                raise told(name)(**fields)
            self.check(caught.exception, fields)

    def test_just_these_arguments(self):
        for name, fields in FIELDS.items():
            with self.subTest(name):
                self.assertRaises(TypeError, told(name))
                self.assertRaises(TypeError, told(name), *fields.values(), 1)
                self.assertRaises(TypeError, told(name), other=1)


if __name__ == "__main__":
    unittest.main()
