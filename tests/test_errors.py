import unittest

from nearenough.errors import Lacking, NearError, NoName, NoRow, NoWeb
from nearenough.parted import Parted

REFUSALS = (NoWeb, Lacking, NoName, NoRow, Parted)


class Families(unittest.TestCase):
    def test_near_error_is_a_value_error(self):
        self.assertTrue(issubclass(NearError, ValueError))

    def test_each_refusal_stands_under_near_error(self):
        for refusal in REFUSALS:
            with self.subTest(refusal=refusal.__name__):
                self.assertTrue(issubclass(refusal, NearError))
                self.assertTrue(issubclass(refusal, ValueError))
                self.assertIsNot(refusal, NearError)

    def test_no_refusal_stands_under_another(self):
        for one in REFUSALS:
            for other in REFUSALS:
                if one is not other:
                    with self.subTest(one=one.__name__, other=other.__name__):
                        self.assertFalse(issubclass(one, other))

    def test_names(self):
        names = [refusal.__name__ for refusal in REFUSALS]
        self.assertEqual(names, ["NoWeb", "Lacking", "NoName", "NoRow", "Parted"])

    def test_each_stands_right_under_near_error(self):
        for refusal in REFUSALS:
            self.assertEqual(refusal.__bases__, (NearError,))



class Making(unittest.TestCase):
    def test_no_web_has_its_row(self):
        for row in (0, 1, 401):
            self.assertEqual(NoWeb(row).row, row)

    def test_lacking_has_its_thing(self):
        for thing in (0, 1, 199):
            self.assertEqual(Lacking(thing).thing, thing)

    def test_parted_has_its_wish(self):
        for wish in (0, 1, 59):
            self.assertEqual(Parted(wish).wish, wish)

    def test_fields_belong_to_each_object(self):
        first, second = NoWeb(3), NoWeb(5)
        self.assertEqual((first.row, second.row), (3, 5))
        first, second = Lacking(3), Lacking(5)
        self.assertEqual((first.thing, second.thing), (3, 5))
        first, second = Parted(3), Parted(5)
        self.assertEqual((first.wish, second.wish), (3, 5))

    def test_no_name_and_no_row_are_made_by_a_text(self):
        for refusal in (NoName, NoRow):
            with self.subTest(refusal=refusal.__name__):
                self.assertIn("some words", str(refusal("some words")))
                self.assertIsInstance(refusal(""), refusal)

    def test_they_are_raised_and_taken(self):
        for made in (NoWeb(2), Lacking(2), NoName("a"), NoRow("a"), Parted(2)):
            with self.subTest(made=repr(made)):
                with self.assertRaises(NearError) as held:
                    raise made
                self.assertIs(held.exception, made)


if __name__ == "__main__":
    unittest.main()
