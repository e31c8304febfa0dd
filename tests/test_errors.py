import unittest

from scatterbooks import errors

PLAIN = ["BadOrder", "BadCount", "NotEnding", "NotOneRest", "NotText"]
FIELDS = {"BadBook": "index", "BadWord": "index", "InvalidText": "place", "TooMany": "most"}


class Errors(unittest.TestCase):

    def test_base_class(self):
        self.assertEqual(errors.ScatterError.__bases__, (ValueError,))

    def test_direct_subclasses(self):
        for name in PLAIN + list(FIELDS):
            with self.subTest(name=name):
                self.assertEqual(getattr(errors, name).__bases__, (errors.ScatterError,))

    def test_all_stand_in_the_file(self):
        for name in ["ScatterError"] + PLAIN + list(FIELDS):
            with self.subTest(name=name):
                self.assertEqual(getattr(errors, name).__module__, "scatterbooks.errors")

    def test_no_other_classes(self):
        own = [name for name, value in vars(errors).items() if isinstance(value, type)]
        self.assertEqual(sorted(own), sorted(["ScatterError"] + PLAIN + list(FIELDS)))

    def test_fields_are_set_on_each_object(self):
        for name, field in FIELDS.items():
            for number in (0, 3, 1500):
                with self.subTest(name=name, number=number):
                    error = getattr(errors, name)(number)
                    self.assertEqual(vars(error), {field: number})
                    again = getattr(errors, name)(**{field: number})
                    self.assertEqual(vars(again), {field: number})

    def test_index_may_be_none(self):
        self.assertIsNone(errors.BadBook(None).index)
        self.assertIsNone(errors.BadWord(None).index)

    def test_errors_without_fields(self):
        for name in PLAIN:
            with self.subTest(name=name):
                self.assertEqual(vars(getattr(errors, name)()), {})

    def test_each_can_be_raised_and_caught_by_its_base(self):
        for name in PLAIN:
            with self.assertRaises(errors.ScatterError):
                raise getattr(errors, name)()
        for name in FIELDS:
            with self.assertRaises(errors.ScatterError):
                raise getattr(errors, name)(1)

    def test_messages_are_texts(self):
        for name in FIELDS:
            self.assertTrue(str(getattr(errors, name)(5)))
