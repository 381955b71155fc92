"""Points 20 and 21: makings with one thing turned, and what is needless."""

import copy
import random
import unittest

from plain_hands import near_making, some_making
from programs import STEADY_OF_BITS, STEADY_OF_SAFE, made, passed_on
from strongboxes.errors import TooMany
from strongboxes.makings import check_making
from strongboxes.seek import seek
from strongboxes.texts import read_making, shown_making
from strongboxes.turned import needless, turned


def slowly_turned(making):
    """The same by lists that are changed, row by row."""
    told = []

    def tell(what, change):
        kind, size, begin, boxes, hands = making
        lists = [list(box) for box in boxes], [[name, within, list(rows)] for name, within, rows in hands]
        change(*lists)
        other = (kind, size, begin, tuple(map(tuple, lists[0])),
                 tuple((name, within, tuple(rows)) for name, within, rows in lists[1]))
        if other != making:
            check_making(other)
            told.append((what, other))

    for place, box in enumerate(making[3]):
        if box[1] == "whole":
            tell(("weaker", box[0]), lambda boxes, hands: boxes[place].__setitem__(1, "steady"))
        if box[1] == "steady":
            tell(("weaker", box[0]), lambda boxes, hands: boxes[place].__setitem__(1, "safe"))
    for number, hand in enumerate(making[4]):
        for at in range(len(hand[2])):
            def less(boxes, hands):
                rows = hands[number][2]
                del rows[at]
                for place, row in enumerate(rows):
                    if row[0] == "jump":
                        rows[place] = ("jump", row[1] - (row[1] > at))
                    if row[0] == "unless":
                        rows[place] = ("unless", row[1], row[2] - (row[2] > at))
            tell(("less", hand[0], at), less)
    for number, hand in enumerate(making[4]):
        for at in range(len(hand[2]) - 1):
            def other(boxes, hands):
                rows = hands[number][2]
                rows[at], rows[at + 1] = rows[at + 1], rows[at]
            tell(("other", hand[0], at), other)
    return told


class TurnedTest(unittest.TestCase):
    def test_written_out(self):
        making = made(
            "makes steady 2 0, box b whole 2 0 w, box c safe 2 0 w, box d steady 2 0 w",
            "hand w 9, unless 2 v, put b v, jump 1",
            "hand r 9, get x b, tell x",
        )
        asked = (
            (("weaker", "b"), "makes steady 2 0, box b steady 2 0 w, box c safe 2 0 w, box d steady 2 0 w",
             "hand w 9, unless 2 v, put b v, jump 1, hand r 9, get x b, tell x"),
            (("weaker", "d"), "makes steady 2 0, box b whole 2 0 w, box c safe 2 0 w, box d safe 2 0 w",
             "hand w 9, unless 2 v, put b v, jump 1, hand r 9, get x b, tell x"),
        ) + tuple((what, "makes steady 2 0, box b whole 2 0 w, box c safe 2 0 w, box d steady 2 0 w", rows) for what, rows in (
            (("less", "w", 0), "hand w 9, put b v, jump 0, hand r 9, get x b, tell x"),
            (("less", "w", 1), "hand w 9, unless 1 v, jump 1, hand r 9, get x b, tell x"),
            (("less", "w", 2), "hand w 9, unless 2 v, put b v, hand r 9, get x b, tell x"),
            (("less", "r", 0), "hand w 9, unless 2 v, put b v, jump 1, hand r 9, tell x"),
            (("less", "r", 1), "hand w 9, unless 2 v, put b v, jump 1, hand r 9, get x b"),
            (("other", "w", 0), "hand w 9, put b v, unless 2 v, jump 1, hand r 9, get x b, tell x"),
            (("other", "w", 1), "hand w 9, unless 2 v, jump 1, put b v, hand r 9, get x b, tell x"),
            (("other", "r", 0), "hand w 9, unless 2 v, put b v, jump 1, hand r 9, tell x, get x b"),
        ))
        told = turned(making)
        self.assertEqual(told, [(row[0], made(*row[1:])) for row in asked])
        self.assertEqual((type(told), type(told[0]), type(told[0][0])), (list, tuple, tuple))

    def test_targets_above_the_row_that_is_left_out(self):
        making = made("makes safe 2 0, hand w 9, jump 0, jump 1, jump 2, jump 3, jump 4, unless 5 v, hand r 9")
        rows = dict((what, other[4][0][2]) for what, other in turned(making))
        unless = ("unless", ("var", "v"), 4)
        jumps = [("jump", 0), ("jump", 1), ("jump", 2), ("jump", 3), ("jump", 4)]
        self.assertEqual(rows[("less", "w", 0)], (("jump", 0), ("jump", 1), ("jump", 2), ("jump", 3), unless))
        self.assertEqual(rows[("less", "w", 2)], (("jump", 0), ("jump", 1), ("jump", 2), ("jump", 3), unless))
        self.assertEqual(rows[("less", "w", 5)], tuple(jumps))
        last = made("makes safe 2 0, hand w 9, unless 3 v, jump 3, jump 2, hand r 9")
        rows = dict((what, other[4][0][2]) for what, other in turned(last))
        self.assertEqual(rows[("less", "w", 2)], (("unless", ("var", "v"), 2), ("jump", 2)))
        self.assertEqual(rows[("less", "w", 0)], (("jump", 2), ("jump", 1)))

    def test_two_of_them_may_be_alike(self):
        making = made("makes safe 2 0, hand w 9, done, done, hand r 9")
        other = made("makes safe 2 0, hand w 9, done, hand r 9")
        self.assertEqual(turned(making), [(("less", "w", 0), other), (("less", "w", 1), other)])

    def test_none_that_is_the_making_itself(self):
        making = made("makes safe 2 0, hand w 9, let x 1, let x 1, let x 2, hand r 9, tell 0, tell 0")
        self.assertEqual([what for what, _ in turned(making)], [
            ("less", "w", 0), ("less", "w", 1), ("less", "w", 2), ("less", "r", 0), ("less", "r", 1),
            ("other", "w", 1)])

    def test_where_there_is_nothing(self):
        self.assertEqual(turned(made("makes safe 2 0, box b safe 2 0 w, hand w 9, hand r 9")), [])
        self.assertEqual(turned(made("makes whole 2 0, hand w 9, hand r 9")), [])

    def test_boxes_of_all_kinds(self):
        making = made("makes whole 3 0, box a whole 2 0 w, box b safe 3 1 r, box c steady 4 0 r, box d whole 5 0 w",
                      "hand w 0, hand r 0")
        self.assertEqual([(what, tuple(box[1] for box in other[3])) for what, other in turned(making)], [
            (("weaker", "a"), ("steady", "safe", "steady", "whole")),
            (("weaker", "c"), ("whole", "safe", "safe", "whole")),
            (("weaker", "d"), ("whole", "safe", "steady", "steady")),
        ])

    def test_sixty_rows_and_four_hands(self):
        rows = ", ".join(["let x 1, unless 60 x"] * 30)
        making = made("makes safe 2 0", *(f"hand {name} 9, {rows}" for name in "wrst"))
        told = turned(making)
        self.assertEqual(len(told), 4 * 60 + 4 * 59)
        self.assertEqual(told, slowly_turned(making))

    def test_makings_by_chance(self):
        chance = random.Random(20)
        for _ in range(150):
            making = chance.choice((some_making, near_making))(chance)
            told = turned(making)
            self.assertEqual(told, slowly_turned(making))
            for _, other in told:
                self.assertNotEqual(other, making)
                self.assertEqual(read_making(shown_making(other)), other)

    def test_what_is_told_is_the_askers_own(self):
        before = copy.deepcopy(STEADY_OF_SAFE)
        asked = turned(making=STEADY_OF_SAFE)
        turned(STEADY_OF_SAFE).clear()
        self.assertEqual(turned(STEADY_OF_SAFE), asked)
        self.assertEqual(STEADY_OF_SAFE, before)


class NeedlessTest(unittest.TestCase):
    def slowly(self, making, most):
        told = []
        for what, other in slowly_turned(making):
            try:
                if seek(other, most)[0] == "paper":
                    told.append(what)
            except TooMany:
                continue
        return told

    def test_written_out(self):
        self.assertEqual(needless(STEADY_OF_SAFE, 100000), [("other", "w", 1)])
        self.assertEqual(needless(passed_on("steady", "whole"), 1000), [("weaker", "b")])
        self.assertEqual(needless(passed_on("safe", "whole"), 1000), [("weaker", "b")])
        self.assertEqual(needless(passed_on("safe", "safe"), 1000), [])
        self.assertEqual(needless(passed_on("safe", "steady"), 1000), [("weaker", "b")])
        self.assertEqual(needless(passed_on("whole", "whole"), 1000), [])

    def test_rows_too_many(self):
        making = made("makes steady 2 0, box b steady 2 0 w, hand w 8, let y 1, put b v, jump 3, done",
                      "hand r 8, let y 0, get x b, get x b, tell x")
        self.assertEqual(needless(making, 100000), self.slowly(making, 100000))
        self.assertEqual(needless(making, 100000), [
            ("less", "w", 0), ("less", "w", 2), ("less", "w", 3), ("less", "r", 0), ("less", "r", 1), ("less", "r", 2),
            ("other", "w", 0), ("other", "w", 2), ("other", "r", 0), ("other", "r", 2)])

    def test_just_those_of_which_seek_tells_a_paper(self):
        for making in (STEADY_OF_SAFE, passed_on("steady", "whole", 2, 2), STEADY_OF_BITS):
            for most in (1, 20, 60, 200, 1500):
                self.assertEqual(needless(making, most), self.slowly(making, most), most)

    def test_too_many_are_left_out(self):
        making = passed_on("steady", "whole")
        count = len(seek(turned(making)[0][1], 1000)[1])
        self.assertEqual(needless(making, count), [("weaker", "b")])
        self.assertEqual(needless(making, count - 1), [])
        self.assertEqual(needless(making, 1), [])

    def test_also_of_a_making_that_breaks(self):
        making = made("makes steady 2 0, box b steady 2 0 w, hand w 8, put b v, hand r 8, jump 0, get x b, tell x")
        self.assertEqual(seek(making, 1000)[0], "break")
        self.assertEqual(needless(making, 1000), [("less", "r", 0)])

    def test_makings_by_chance(self):
        chance = random.Random(21)
        some = 0
        for _ in range(25):
            making = near_making(chance)
            told = needless(making, 400)
            self.assertEqual(told, self.slowly(making, 400), making)
            some += len(told)
        self.assertGreater(some, 10)

    def test_what_is_told_is_the_askers_own(self):
        told = needless(most=1000, making=STEADY_OF_SAFE)
        self.assertIs(type(told), list)
        told.append("more")
        self.assertEqual(needless(STEADY_OF_SAFE, 1000), [("other", "w", 1)])


if __name__ == "__main__":
    unittest.main()
