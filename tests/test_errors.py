"""Point 2 and the interface: the classes of the refusals."""

import copy
import pickle
import unittest

from strongboxes.errors import (
    NoEvents, NoLine, NoMaking, NoPaper, NoStep, NoText, NoUpon, StrongError, TooMany,
)

PLAIN = (NoMaking, TooMany, NoUpon, NoLine)
PLACED = (NoText, NoEvents, NoStep, NoPaper)


class ClassesTest(unittest.TestCase):
    def test_all_stand_under_strong_error_which_is_a_value_error(self):
        self.assertTrue(issubclass(StrongError, ValueError))
        for refusal in PLAIN + PLACED:
            with self.subTest(refusal=refusal.__name__):
                self.assertTrue(issubclass(refusal, StrongError))
                self.assertIsNot(refusal, StrongError)

    def test_none_stands_under_another_one(self):
        for one in PLAIN + PLACED:
            for other in PLAIN + PLACED:
                if one.__name__ != other.__name__:
                    with self.subTest(one=one.__name__, other=other.__name__):
                        self.assertFalse(issubclass(one, other))

    def test_their_names(self):
        names = [refusal.__name__ for refusal in PLAIN + PLACED]
        self.assertEqual(names, ["NoMaking", "TooMany", "NoUpon", "NoLine",
                                 "NoText", "NoEvents", "NoStep", "NoPaper"])


class FieldTest(unittest.TestCase):
    def test_at_is_what_it_is_made_with(self):
        for refusal in PLACED:
            for at in (-1, 0, 7):
                with self.subTest(refusal=refusal.__name__, at=at):
                    self.assertEqual(refusal(at).at, at)
                    self.assertEqual(refusal(at=at).at, at)

    def test_each_object_has_its_own_at(self):
        for refusal in PLACED:
            first, second = refusal(1), refusal(2)
            self.assertEqual((first.at, second.at), (1, 2))
            self.assertFalse(hasattr(refusal, "at"))

    def test_at_is_there_where_it_is_taken_as_a_value_error(self):
        for refusal in PLACED:
            with self.assertRaises(ValueError) as taken:
                raise refusal(4)
            self.assertIs(type(taken.exception), refusal)
            self.assertEqual(taken.exception.at, 4)

    def test_at_stays_in_a_copy(self):
        for refusal in PLACED:
            for error in (refusal(5), refusal(at=5)):
                self.assertEqual(copy.copy(error).at, 5)
                self.assertEqual(pickle.loads(pickle.dumps(error)).at, 5)

    def test_the_others_take_words_or_none(self):
        for refusal in PLAIN:
            self.assertEqual(str(refusal("some words")), "some words")
            self.assertIsInstance(refusal(), StrongError)


if __name__ == "__main__":
    unittest.main()
