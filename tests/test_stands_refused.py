"""Point 14: steps that can't be taken."""

import copy
import unittest

from programs import passed_on
from strongboxes.errors import (
    NoEvents, NoLine, NoMaking, NoPaper, NoStep, NoText, NoUpon, StrongError, TooMany,
)
from strongboxes.stands import first_stand, stepped, steps_of

NO_STEPS = (
    None, 0, 1, True, "", "w", "w 0", "w0", [], {}, (), ("w",), (0,), ("w", 0, 0), ("w", 0, None), (("w", 0),),
    ["w", 0], ["r", 0], (0, "w"), (0, 0), (None, 0), (True, 0), (("w",), 0), (["w"], 0), ({}, 0), ("", 0), ("W", 0),
    ("w ", 0), ("x", 0), ("b", 0), ("s", 0), ("w", None), ("w", "0"), ("w", ""), ("w", 0.0), ("w", 1.0), ("w", True),
    ("w", False), ("r", False), ("w", (0,)), ("w", [0]), ("w", -1), ("r", -1), ("r", 1), ("w", 3), ("w", 10),
    ("w", 10 ** 30), {"w": 0}, {"w", 0},
)


class RefusedTest(unittest.TestCase):
    def refused(self, making, stand, step):
        with self.subTest(step=repr(step)[:60], stand=stand):
            before = copy.deepcopy(stand)
            with self.assertRaises(NoStep) as taken:
                stepped(making, stand, step)
            self.assertIs(type(taken.exception), NoStep)
            self.assertEqual((type(taken.exception.at), taken.exception.at), (int, 0))
            self.assertEqual(stand, before)

    def stands(self, making):
        """The first stand, one in the midst of a put and get, and one behind both."""
        stand = first_stand(making)
        stands = [stand]
        for step in (("w", 2), ("r", 0), ("w", 0), ("r", 0), ("w", 0), ("r", 2)):
            stand = stepped(making, stand, step)[0]
            stands.append(stand)
        return stands

    def test_what_is_none_of_steps_of(self):
        making = passed_on("safe", "steady", 3)
        for stand in self.stands(making):
            steps = steps_of(making, stand)
            for step in NO_STEPS:
                self.refused(making, stand, step)
            for hand in ("w", "r"):
                for pick in range(-2, 12):
                    if (hand, pick) not in steps:
                        self.refused(making, stand, (hand, pick))
                    else:
                        stepped(making, stand, (hand, pick))

    def test_picks_beyond_what_may_be_got(self):
        making = passed_on("safe", "steady", 3)
        stand = (((-1, None, 0, 0, ()), (0, (0, 2), 0, 1, (0,))), ((0, -1),), (0, -1, ((0, 2),)))
        self.assertEqual(steps_of(making, stand), [("w", 0), ("w", 1), ("w", 2), ("r", 0), ("r", 2)])
        for pick in (-1, 1, 3, True):
            self.refused(making, stand, ("r", pick))

    def test_a_get_that_may_get_nothing(self):
        making = passed_on("safe", "steady", 3)
        stand = (((-1, None, 0, 0, ()), (0, (), 0, 1, (0,))), ((0, -1),), (0, -1, ((0, 2),)))
        for pick in (0, 1, 2):
            self.refused(making, stand, ("r", pick))

    def test_things_nested_thousands_deep(self):
        deep = ()
        for _ in range(100000):
            deep = (deep,)
        making = passed_on("safe", "steady", 3)
        for step in (deep, (deep, 0), ("w", deep)):
            with self.assertRaises(NoStep):
                stepped(making, first_stand(making), step)

    def test_the_class_of_the_refusal(self):
        making = passed_on("safe", "steady")
        with self.assertRaises(StrongError) as taken:
            stepped(making, first_stand(making), None)
        self.assertIsInstance(taken.exception, ValueError)
        for other in (NoMaking, NoText, NoEvents, NoPaper, TooMany, NoUpon, NoLine):
            self.assertNotIsInstance(taken.exception, other)


if __name__ == "__main__":
    unittest.main()
