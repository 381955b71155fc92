"""Point 15: weavings."""

import copy
import random
import unittest

from plain_hands import behind, some_making, some_weaving
from programs import STEADY_OF_BITS, made, passed_on
from strongboxes.errors import (
    NoEvents, NoLine, NoMaking, NoPaper, NoStep, NoText, NoUpon, StrongError, TooMany,
)
from strongboxes.runner import walked
from strongboxes.stands import first_stand, stepped

# The last step breaks a whole box: a newer worth is told ahead of an older one.
WHOLE = passed_on("whole", "steady", readers=2)
BREAKS = [("w", 1), ("w", 0), ("r", 0), ("r", 0), ("r", 1), ("s", 0), ("s", 0), ("s", 0)]


class WalkedTest(unittest.TestCase):
    def test_the_empty_weaving(self):
        for making in (WHOLE, STEADY_OF_BITS, made("makes safe 2 1, hand w 0, hand r 0")):
            asked = {"events": [], "broken": None, "stand": first_stand(making)}
            self.assertEqual(walked(making, []), asked)

    def test_written_out(self):
        told = walked(passed_on("steady", "steady", 3), [("w", 2), ("w", 0), ("r", 0), ("r", 0), ("w", 0), ("r", 2)])
        self.assertEqual(told, {
            "events": [("begin", "w", 2), ("begin", "r"), ("end", "w"), ("end", "r", 2)],
            "broken": None,
            "stand": (((-1, None, 0, 0, ()), (-1, None, 0, 0, (2,))), ((2, -1),), (2, -1, (None,))),
        })
        self.assertEqual(list(told), ["events", "broken", "stand"])

    def test_one_that_breaks(self):
        self.assertEqual(walked(WHOLE, BREAKS), {
            "events": [("begin", "w", 1), ("begin", "r"), ("end", "r", 1), ("begin", "s"), ("end", "s", 0)],
            "broken": ("tells", "s"),
            "stand": None,
        })
        self.assertIsNone(walked(WHOLE, BREAKS[:-1])["broken"])

    def test_one_that_breaks_ahead_of_an_event(self):
        making = made("makes safe 2 0, box b safe 2 0 w, hand w 1, put b v, hand r 0")
        weaving = [("w", 1), ("w", 0), ("w", 0)]
        self.assertEqual(walked(making, weaving), {
            "events": [("begin", "w", 1)], "broken": ("long", "w"), "stand": None})
        self.assertEqual(walked(making, [("r", 0)]), {
            "events": [("begin", "r")], "broken": ("silent", "r"), "stand": None})

    def test_each_beginning_of_long_ones(self):
        chance = random.Random(15)
        for making in (WHOLE, STEADY_OF_BITS, passed_on("safe", "safe", 4, 3)):
            weaving = some_weaving(making, 150, chance)
            stand = first_stand(making)
            events = []
            for count, step in enumerate(weaving):
                asked = {"events": events, "broken": None, "stand": stand}
                self.assertEqual(walked(making, weaving[:count]), asked)
                told = stepped(making, stand, step)
                stand, events = told[0], events + told[2]
            asked = {"events": events, "broken": told[1], "stand": stand}
            self.assertEqual(walked(making, weaving), asked)

    def test_thousands_of_steps(self):
        making = STEADY_OF_BITS
        weaving = some_weaving(making, 3000, random.Random(16))
        self.assertEqual(len(weaving), 3000)
        plain = behind(making, weaving)
        asked = {"events": plain.events, "broken": None, "stand": plain.stand()}
        self.assertEqual(walked(making, weaving), asked)

    def test_the_weaving_stays_as_it_was(self):
        weaving = list(BREAKS)
        walked(WHOLE, weaving)
        self.assertEqual(weaving, BREAKS)

    def test_what_is_told_is_the_askers_own(self):
        asked = copy.deepcopy(walked(WHOLE, BREAKS))
        told = walked(WHOLE, BREAKS)
        told["events"].append("more")
        told["more"] = 1
        self.assertEqual(walked(WHOLE, BREAKS), asked)
        self.assertIsNot(walked(WHOLE, [])["events"], walked(WHOLE, [])["events"])

    def test_by_their_names(self):
        self.assertEqual(walked(weaving=BREAKS, making=WHOLE), walked(WHOLE, BREAKS))


class RefusedTest(unittest.TestCase):
    def refused(self, making, weaving, at):
        with self.subTest(repr(weaving)[:80]):
            with self.assertRaises(NoStep) as taken:
                walked(making, weaving)
            self.assertIs(type(taken.exception), NoStep)
            self.assertEqual((type(taken.exception.at), taken.exception.at), (int, at))

    def test_what_is_no_list(self):
        for thing in (None, (), (("w", 0),), tuple(BREAKS), "", "w 0", 0, 7, True, {}, set(), iter([]), ("w", 0)):
            self.refused(WHOLE, thing, 0)

    def test_the_first_step_that_cant_be_taken(self):
        wrong = (None, ["w", 0], ("w", 2), ("w", -1), ("w", True), ("x", 0), ("r", 1), ("w",), ("w", 0, 0), "w 0", ())
        for step in wrong:
            self.refused(WHOLE, [step], 0)
            self.refused(WHOLE, [step, ("w", 0)], 0)
            for count in range(len(BREAKS) - 1):
                if step not in (("w", 2), ("r", 1)):
                    self.refused(WHOLE, BREAKS[:count] + [step], count)
                    self.refused(WHOLE, BREAKS[:count] + [step] + BREAKS[count:], count)
            self.refused(WHOLE, BREAKS[:3] + [step, None, step], 3)

    def test_a_step_that_could_be_taken_elsewhere(self):
        self.refused(WHOLE, [("w", 1), ("w", 1)], 1)
        self.refused(WHOLE, [("r", 0), ("r", 0), ("r", 1)], 2)

    def test_behind_a_break(self):
        for step in (("w", 0), ("r", 0), ("s", 0), None, BREAKS[-1]):
            self.refused(WHOLE, BREAKS + [step], len(BREAKS))
            self.refused(WHOLE, BREAKS + [step, step], len(BREAKS))
        self.refused(WHOLE, BREAKS[:2] + [("r", 1)] + BREAKS[3:] + [None], 2)

    def test_makings_by_chance(self):
        chance = random.Random(17)
        for _ in range(200):
            making = some_making(chance)
            weaving = some_weaving(making, 12, chance)
            at = chance.randint(0, len(weaving))
            steps = [] if behind(making, weaving[:at]).broken else behind(making, weaving[:at]).steps()
            for step in ((hand[0], pick) for hand in making[4] for pick in range(4)):
                if step not in steps:
                    self.refused(making, weaving[:at] + [step], at)

    def test_the_class_of_the_refusal(self):
        with self.assertRaises(StrongError) as taken:
            walked(WHOLE, None)
        self.assertIsInstance(taken.exception, ValueError)
        for other in (NoMaking, NoText, NoEvents, NoPaper, TooMany, NoUpon, NoLine):
            self.assertNotIsInstance(taken.exception, other)


if __name__ == "__main__":
    unittest.main()
