import unittest

from pointsum import errors

FIELDS = {
    "TooGreat": ("what",),
    "NoCurve": (),
    "NotOn": ("point",),
    "WrongForm": (),
    "BadNumber": ("number",),
    "OutOfRange": ("number",),
    "Open": (),
    "BadName": ("name",),
    "NameTaken": ("name",),
    "UnknownName": ("name",),
    "NothingToUndo": (),
    "NothingToRedo": (),
}


class ErrorsTest(unittest.TestCase):
    def test_what_stands_under_what(self):
        self.assertTrue(issubclass(errors.PointsumError, ValueError))
        for name in FIELDS:
            self.assertEqual(getattr(errors, name).__bases__, (errors.PointsumError,), name)

    def test_fields_by_name_and_place(self):
        for name, fields in FIELDS.items():
            told = tuple((field, 5) for field in fields)
            error = getattr(errors, name)(*told)
            self.assertEqual(vars(error), dict(zip(fields, told)), name)
            error = getattr(errors, name)(**dict(zip(fields, told)))
            self.assertEqual(vars(error), dict(zip(fields, told)), name)

    def test_wrong_many_fields(self):
        for name, fields in FIELDS.items():
            if fields:
                self.assertRaises(TypeError, getattr(errors, name))

    def test_great_numbers_have_a_text(self):
        for name, fields in FIELDS.items():
            error = getattr(errors, name)(*[10 ** 5000 for _ in fields])
            self.assertIsInstance(str(error), str)

    def test_caught_as_what_they_are(self):
        for name, fields in FIELDS.items():
            for kind in (getattr(errors, name), errors.PointsumError, ValueError):
                with self.assertRaises(kind):
                    raise getattr(errors, name)(*fields)


if __name__ == "__main__":
    unittest.main()
