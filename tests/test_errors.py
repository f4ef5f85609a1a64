import unittest

from talkcourt import errors

WITH_FIELD = (
    (errors.NoBook, "row"),
    (errors.NoMove, "number"),
    (errors.NoTalker, "row"),
    (errors.NoPaper, "row"),
    (errors.NoWeb, "world"),
    (errors.NoName, "name"),
)
WITHOUT_FIELD = (errors.NoText, errors.NotLet, errors.NoPlan, errors.NoRow)
ALL = tuple(made for made, _ in WITH_FIELD) + WITHOUT_FIELD


class Refusals(unittest.TestCase):
    def test_there_are_ten(self):
        self.assertEqual(len(set(ALL)), 10)

    def test_fields_are_as_made(self):
        for made, field in WITH_FIELD:
            for value in (0, 1, 37, "", "Some Name", " a "):
                with self.subTest(made=made.__name__, value=value):
                    self.assertEqual(getattr(made(value), field), value)

    def test_fields_have_no_default(self):
        for made, _ in WITH_FIELD:
            with self.subTest(made=made.__name__), self.assertRaises(TypeError):
                made()

    def test_made_of_nothing(self):
        for made in WITHOUT_FIELD:
            with self.subTest(made=made.__name__):
                self.assertEqual(vars(made()), {})

    def test_each_is_a_talk_error_and_a_value_error(self):
        self.assertTrue(issubclass(errors.TalkError, ValueError))
        for made in ALL:
            with self.subTest(made=made.__name__):
                self.assertTrue(issubclass(made, errors.TalkError))
                self.assertIsNot(made, errors.TalkError)

    def test_none_is_under_another(self):
        for one in ALL:
            for other in ALL:
                with self.subTest(one=one.__name__, other=other.__name__):
                    self.assertEqual(issubclass(one, other), one is other)

    def test_raised_they_are_caught_by_each_of_their_names(self):
        for made, field in WITH_FIELD:
            for caught in (made, errors.TalkError, ValueError):
                with self.subTest(made=made.__name__), self.assertRaises(caught) as held:
                    raise made(5)
                self.assertEqual(getattr(held.exception, field), 5)
        for made in WITHOUT_FIELD:
            for caught in (made, errors.TalkError, ValueError):
                with self.subTest(made=made.__name__), self.assertRaises(caught):
                    raise made()


if __name__ == "__main__":
    unittest.main()
