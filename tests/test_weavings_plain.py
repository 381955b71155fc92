"""Points 11 to 15: makings by chance, gone through beside a plainer way."""

import random
import unittest

from plain_hands import PlainHands, near_making, some_making
from strongboxes.runner import walked
from strongboxes.stands import first_stand, stepped, steps_of


class BesidePlainHandsTest(unittest.TestCase):
    def test_step_by_step(self):
        chance = random.Random(12)
        breaks = {}
        for _ in range(1500):
            making = some_making(chance)
            word = self.go_beside(making, chance, 25)
            breaks[word] = breaks.get(word, 0) + 1
        # Each break is met, and so are weavings without one.
        self.assertEqual(sorted(breaks), ["", "great", "long", "silent", "stuck", "tells"])
        self.assertGreater(min(breaks.values()), 20, breaks)

    def test_makings_that_hold_or_nearly_do(self):
        chance = random.Random(13)
        breaks = {}
        for _ in range(200):
            word = self.go_beside(near_making(chance), chance, 60)
            breaks[word] = breaks.get(word, 0) + 1
        self.assertGreater(breaks[""], 50, breaks)
        self.assertGreater(breaks["tells"], 20, breaks)

    def go_beside(self, making, chance, length):
        """How the weaving breaks, or nothing."""
        plain = PlainHands(making)
        stand = first_stand(making)
        weaving = []
        for _ in range(length):
            self.assertEqual(stand, plain.stand(), (making, weaving))
            steps = steps_of(making, stand)
            self.assertEqual(steps, plain.steps(), (making, weaving))
            step = chance.choice(steps)
            weaving.append(step)
            told = stepped(making, stand, step)
            events = plain.take(step)
            later = None if plain.broken else plain.stand()
            self.assertEqual(told, (later, plain.broken, events), (making, weaving))
            if plain.broken:
                break
            stand = told[0]
        told = walked(making, weaving)
        later = None if plain.broken else plain.stand()
        self.assertEqual(told, {"events": plain.events, "broken": plain.broken, "stand": later}, (making, weaving))
        return plain.broken[0] if plain.broken else ""


if __name__ == "__main__":
    unittest.main()
