"""Point 3: JUDGED and STRONGER, over makings by chance and some that hold."""

import random
import unittest

from plain_hands import near_making, some_making, some_weaving
from programs import STEADY_OF_BITS, STEADY_OF_SAFE, passed_on, with_box_kind, with_kind
from strongboxes.errors import TooMany
from strongboxes.judge import judged
from strongboxes.moments import bears_out, moments_of
from strongboxes.runner import walked
from strongboxes.seek import seek

KINDS = ("safe", "steady", "whole")


class JudgedTest(unittest.TestCase):
    def test_events_are_kept_where_no_reading_breaks(self):
        chance = random.Random(31)
        tells = {}
        for _ in range(1200):
            making = some_making(chance)
            told = walked(making, some_weaving(making, 30, chance))
            breaks = told["broken"] is not None and told["broken"][0] == "tells"
            self.assertEqual(judged(making, told["events"]), not breaks, (making, told))
            if breaks:
                self.assertEqual(told["events"][-1][:2], ("end", told["broken"][1]))
                self.assertTrue(judged(making, told["events"][:-1]), (making, told))
                tells[making[0]] = tells.get(making[0], 0) + 1
        self.assertEqual(sorted(tells), sorted(KINDS))

    def test_an_order_of_moments_where_a_whole_box_does_not_break(self):
        chance = random.Random(32)
        for _ in range(300):
            making = some_making(chance, kinds=("whole",))
            told = walked(making, some_weaving(making, 20, chance))
            order = moments_of(making, told["events"])
            if told["broken"] is not None and told["broken"][0] == "tells":
                self.assertIsNone(order)
            else:
                self.assertTrue(bears_out(making, told["events"], order))

    def test_long_weavings_of_makings_that_hold(self):
        chance = random.Random(33)
        for making in (STEADY_OF_SAFE, STEADY_OF_BITS, passed_on("whole", "whole", 3, 3)):
            weaving = some_weaving(making, 500, chance)
            self.assertEqual(len(weaving), 500)
            self.assertTrue(judged(making, walked(making, weaving)["events"]))

    def test_what_seek_tells_as_a_break(self):
        for making in (passed_on("steady", "safe"), passed_on("whole", "safe"), passed_on("whole", "steady", 3, 2)):
            told = walked(making, seek(making, 100000)[1])
            self.assertEqual(told["broken"][0], "tells")
            self.assertFalse(judged(making, told["events"]))
            self.assertTrue(judged(making, told["events"][:-1]))


class StrongerTest(unittest.TestCase):
    def word(self, making, most=20000):
        try:
            return seek(making, most)[0]
        except TooMany:
            return "too many"

    def stronger(self, making):
        """The making with one kind that it is made of stronger, or the made kind weaker, each by one."""
        others = []
        for place, box in enumerate(making[3]):
            others.extend(with_box_kind(making, place, kind) for kind in KINDS[KINDS.index(box[1]) + 1:])
        return others + [with_kind(making, kind) for kind in KINDS[:KINDS.index(making[0])]]

    def test_of_makings_that_hold(self):
        for making in (STEADY_OF_SAFE, STEADY_OF_BITS, passed_on("steady", "steady", 2, 2),
                       passed_on("whole", "whole", 2, 2), passed_on("safe", "safe", 3)):
            self.assertEqual(self.word(making), "paper")
            for other in self.stronger(making):
                self.assertIn(self.word(other, 100000), ("paper", "too many"), other)

    def test_one_made_of_the_other_where_it_is_as_strong(self):
        for made_kind in KINDS:
            for box_kind in KINDS:
                holds = KINDS.index(box_kind) >= KINDS.index(made_kind)
                word = self.word(passed_on(made_kind, box_kind, 2, 2))
                self.assertEqual(word, "paper" if holds else "break", (made_kind, box_kind))

    def test_of_makings_by_chance(self):
        chance = random.Random(34)
        papers = 0
        for _ in range(300):
            making = near_making(chance)
            if self.word(making, 1500) == "paper":
                papers += 1
                for other in self.stronger(making):
                    self.assertNotEqual(self.word(other, 4000), "break", (making, other))
        self.assertGreater(papers, 20)


if __name__ == "__main__":
    unittest.main()
