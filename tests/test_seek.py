"""Point 16: the seeker; of point 3 ONE OF BOTH, as far as seek tells it."""

import copy
import random
import unittest

from plain_hands import PlainHands, behind, near_making, some_making
from programs import STEADY_OF_BITS, STEADY_OF_SAFE, made, passed_on
from strongboxes.errors import (
    NoEvents, NoLine, NoMaking, NoPaper, NoStep, NoText, NoUpon, StrongError, TooMany,
)
from strongboxes.runner import walked
from strongboxes.seek import seek
from strongboxes.stands import first_stand, stepped, steps_of


def slowly_sought(making, most):
    """What seek tells, each weaving gone through from the first stand on, and how many stands were met."""
    met = {PlainHands(making).stand(): True}
    level = [[]]
    while level:
        later = []
        for weaving in level:
            for step in behind(making, weaving).steps():
                plain = behind(making, weaving + [step])
                if plain.broken:
                    return ("break", weaving + [step]), len(met)
                if plain.stand() not in met:
                    met[plain.stand()] = True
                    later.append(weaving + [step])
                if len(met) > most:
                    return None, len(met)
        level = later
    return ("paper", list(met)), len(met)


def first_break(making, length):
    """The first weaving that breaks of all those of up to so many steps, or None."""
    level = [[]]
    for _ in range(length):
        later = []
        for weaving in level:
            for step in behind(making, weaving).steps():
                if behind(making, weaving + [step]).broken:
                    return weaving + [step]
                later.append(weaving + [step])
        level = later
    return None


class SeekTest(unittest.TestCase):
    def too_many(self, making, most):
        with self.assertRaises(TooMany) as taken:
            seek(making, most)
        self.assertIs(type(taken.exception), TooMany)
        self.assertIsInstance(taken.exception, StrongError)
        self.assertIsInstance(taken.exception, ValueError)
        for other in (NoMaking, NoText, NoEvents, NoStep, NoPaper, NoUpon, NoLine):
            self.assertNotIsInstance(taken.exception, other)


class BreaksTest(SeekTest):
    def test_written_out(self):
        for making, weaving in (
            (made("makes safe 2 0, hand w 0, hand r 0"), [("r", 0)]),
            (made("makes safe 2 0, hand w 0, jump 0, hand r 0"), [("w", 0)]),
            (made("makes safe 3 0, hand w 0, unless 3 = v 1, jump 1, done, hand r 0, tell 0"), [("w", 1)]),
            (made("makes safe 3 1, hand w 0, hand r 0, tell 1, hand s 0, tell 3"), [("s", 0)]),
            (made("makes safe 2 0, hand w 0, hand r 0, tell 0"), [("w", 1), ("r", 0)]),
            (passed_on("steady", "safe", 3), [("w", 0), ("w", 0), ("r", 0), ("r", 0), ("r", 1)]),
            (passed_on("steady", "safe"), [("w", 0), ("w", 0), ("r", 0), ("r", 0), ("r", 1)]),
            (passed_on("safe", "safe", within=1), [("w", 0), ("w", 0), ("w", 0)]),
            (passed_on("safe", "whole", within=0), [("w", 0), ("w", 0)]),
            (passed_on("whole", "steady"), [("w", 1), ("w", 0)] + [("r", 0), ("r", 0), ("r", 1)] + [("r", 0)] * 3),
        ):
            told = seek(making, 100000)
            self.assertEqual(told, ("break", weaving))
            self.assertEqual((type(told), type(told[1]), type(told[1][0])), (tuple, list, tuple))

    def test_the_break_is_the_first_of_the_shortest(self):
        chance = random.Random(16)
        found = {}
        for _ in range(400):
            making = some_making(chance)
            length = 4 if len(making[4]) == 2 else 3
            weaving = first_break(making, length)
            told = self.sought(making, 3000)
            if weaving is not None:
                self.assertEqual(told, ("break", weaving), making)
                found[len(weaving)] = found.get(len(weaving), 0) + 1
            elif told is not None and told[0] == "break":
                self.assertGreater(len(told[1]), length, making)
        self.assertEqual(sorted(found), [1, 2, 3, 4])

    def sought(self, making, most):
        try:
            return seek(making, most)
        except TooMany:
            return None

    def test_no_beginning_of_it_breaks(self):
        chance = random.Random(17)
        for _ in range(200):
            making = some_making(chance)
            told = self.sought(making, 2000)
            if told is not None and told[0] == "break":
                self.assertIsNotNone(walked(making, told[1])["broken"])
                for count in range(len(told[1])):
                    self.assertIsNone(walked(making, told[1][:count])["broken"])


class PapersTest(SeekTest):
    def test_a_small_one_written_out(self):
        making = made("makes safe 2 0, box b whole 2 0 w, hand w 1, put b v, hand r 1, get x b, tell x")
        told = seek(making, 100)
        self.assertEqual(told[0], "paper")
        w, r = (-1, None, 0, 0, ()), (-1, None, 0, 0, (0,))
        w0, w1, r0 = (0, None, 0, 0, ()), (0, None, 1, 0, ()), (0, None, 0, 0, (0,))
        self.assertEqual(told[1][:8], [
            ((w, r), ((0, -1),), (0, -1, (None,))),
            ((w0, r), ((0, -1),), (0, 0, (None,))),
            ((w1, r), ((0, -1),), (0, 1, (None,))),
            ((w, r0), ((0, -1),), (0, -1, ((0,),))),
            ((w0, r0), ((0, -1),), (0, 0, ((0, 1),))),
            ((w, r), ((1, -1),), (1, -1, (None,))),
            ((w1, r0), ((0, -1),), (0, 1, ((0, 1),))),
            ((w, r0), ((0, -1),), (0, -1, ((0, 1),))),
        ])

    def test_all_stands_in_the_order_in_which_they_are_met(self):
        papers = 0
        for making in (STEADY_OF_SAFE, passed_on("whole", "whole"), passed_on("steady", "steady", begin=1),
                       made("makes safe 3 2, hand w 0, let x v, hand r 0, tell 2, hand s 0, tell 2")):
            told, count = slowly_sought(making, 3000)
            self.assertEqual(seek(making, 3000), told)
            papers += told[0] == "paper"
        self.assertEqual(papers, 3)

    def test_what_a_paper_is(self):
        for making in (STEADY_OF_SAFE, STEADY_OF_BITS, passed_on("steady", "steady", 2, 2)):
            word, stands = seek(making, 100000)
            self.assertEqual(word, "paper")
            self.assertIs(type(stands), list)
            self.assertEqual(stands[0], first_stand(making))
            self.assertEqual(len(set(stands)), len(stands))
            # Each is met first by a step from one that was met ahead of it, and no step leads elsewhere.
            met = stands[:1]
            known = set(met)
            for stand in stands:
                for step in steps_of(making, stand):
                    later, broken, _ = stepped(making, stand, step)
                    self.assertIsNone(broken)
                    if later not in known:
                        known.add(later)
                        met.append(later)
            self.assertEqual(met, stands)

    def test_makings_by_chance(self):
        chance = random.Random(18)
        words = {"break": 0, "paper": 0, "": 0}
        for _ in range(250):
            making = near_making(chance)
            told, count = slowly_sought(making, 110)
            if told is None:
                self.too_many(making, 110)
                words[""] += 1
            else:
                self.assertEqual(seek(making, 110), told, making)
                self.assertEqual(seek(making, count), told, making)
                if count > 1:
                    self.too_many(making, count - 1)
                words[told[0]] += 1
        self.assertGreater(min(words.values()), 15, words)

    def test_the_list_is_another_one_each_time(self):
        for making in (STEADY_OF_SAFE, passed_on("steady", "safe")):
            told = seek(making, 100)
            asked = copy.deepcopy(told)
            told[1].append("more")
            told[1][0] = None
            self.assertEqual(seek(making, 100), asked)

    def test_by_their_names(self):
        self.assertEqual(seek(most=52, making=STEADY_OF_SAFE), seek(STEADY_OF_SAFE, 52))


class TooManyTest(SeekTest):
    def test_one_less_than_are_met_and_just_so_many(self):
        for making in (STEADY_OF_SAFE, STEADY_OF_BITS, passed_on("whole", "whole", 2, 2)):
            count = len(seek(making, 100000)[1])
            self.assertEqual(len(seek(making, count)[1]), count)
            self.too_many(making, count - 1)
            self.too_many(making, 1)

    def test_ahead_of_a_break(self):
        # Two stands are met, those behind (w 0) and (w 1) among them once each, ahead of (r 0).
        making = made("makes safe 3 0, hand w 0, hand r 0")
        self.too_many(making, 1)
        self.too_many(making, 2)
        self.assertEqual(seek(making, 3), ("break", [("r", 0)]))

    def test_a_break_with_the_first_stand_alone(self):
        making = made("makes safe 3 0, hand w 0, jump 0, hand r 0")
        self.assertEqual(seek(making, 1), ("break", [("w", 0)]))

    def test_a_stand_that_is_met_again_is_counted_once(self):
        making = made("makes safe 2 0, hand w 0, hand r 0, tell 0")
        # The first stand again behind (w 0); another behind (w 1); the first again behind (r 0); then it breaks.
        self.assertEqual(seek(making, 2), ("break", [("w", 1), ("r", 0)]))
        self.too_many(making, 1)

    def test_a_hundred_thousand(self):
        making = passed_on("steady", "steady", 10)
        self.too_many(making, 100000)
        self.too_many(making, 99999)


if __name__ == "__main__":
    unittest.main()
