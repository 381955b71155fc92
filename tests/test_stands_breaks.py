"""Point 13: how a step breaks, and in which order; of point 14 what a step tells that breaks."""

import unittest

from programs import made, passed_on
from strongboxes.stands import first_stand, stepped, steps_of

IDLE = (-1, None, 0, 0, ())
KINDS = ("safe", "steady", "whole")


class BreaksTest(unittest.TestCase):
    def after(self, making, weaving):
        stand = first_stand(making)
        for step in weaving:
            told = stepped(making, stand, step)
            self.assertIsNone(told[1], (making, weaving, step))
            stand = told[0]
        return stand

    def breaks(self, making, weaving, broken, events=()):
        """The last step of a weaving breaks so, and those ahead of it do not."""
        stand = self.after(making, weaving[:-1])
        self.assertIn(weaving[-1], steps_of(making, stand))
        told = stepped(making, stand, weaving[-1])
        self.assertEqual(told, (None, broken, list(events)), (making, weaving))
        self.assertEqual((type(told), type(told[1]), type(told[2])), (tuple, tuple, list))

    def goes(self, making, weaving):
        return self.after(making, weaving)


def writing(rows, within, boxes="box b steady 2 0 w", kind="safe 2 0"):
    return made(f"makes {kind}", boxes, f"hand w {within}", rows, "hand r 0, tell 0")


def reading(rows, within, boxes="box b steady 2 0 w", kind="safe 2 0"):
    return made(f"makes {kind}", boxes, "hand w 0", f"hand r {within}", rows)


class LongTest(BreaksTest):
    def test_a_put_at_its_first_and_second_half(self):
        for kind in ("safe", "steady"):
            box = f"box b {kind} 2 0 w"
            self.breaks(writing("put b v", 0, box), [("w", 1), ("w", 0)], ("long", "w"))
            self.breaks(writing("put b v", 1, box), [("w", 1), ("w", 0), ("w", 0)], ("long", "w"))
            self.goes(writing("put b v", 2, box), [("w", 1), ("w", 0), ("w", 0)])

    def test_a_get_at_its_first_and_second_half(self):
        for kind in ("safe", "steady"):
            box = f"box b {kind} 2 1 w"
            self.breaks(reading("get x b, tell 0", 0, box), [("r", 0), ("r", 0)], ("long", "r"))
            self.breaks(reading("get x b, tell 0", 1, box), [("r", 0), ("r", 0), ("r", 1)], ("long", "r"))
            self.goes(reading("get x b, tell 0", 2, box), [("r", 0), ("r", 0), ("r", 1)])

    def test_a_whole_box(self):
        box = "box b whole 2 0 w"
        self.breaks(writing("put b v", 0, box), [("w", 1), ("w", 0)], ("long", "w"))
        self.goes(writing("put b v", 1, box), [("w", 1), ("w", 0)])
        self.breaks(writing("put b v, put b 0", 1, box), [("w", 1), ("w", 0), ("w", 0)], ("long", "w"))
        self.breaks(reading("get x b, tell 0", 0, box), [("r", 0), ("r", 0)], ("long", "r"))
        self.goes(reading("get x b, tell 0", 1, box), [("r", 0), ("r", 0)])

    def test_ahead_of_a_number_that_is_too_great(self):
        for kind in KINDS:
            box = f"box b {kind} 2 0 w"
            self.breaks(writing("put b 5", 0, box), [("w", 1), ("w", 0)], ("long", "w"))
            self.breaks(writing("put b 5", 1, box), [("w", 1), ("w", 0)], ("great", "w"))

    def test_within_none_where_nothing_is_put_or_got(self):
        self.goes(writing("let x + x 1, unless 0 = x 9, done", 0), [("w", 1), ("w", 0), ("r", 0), ("w", 1)])

    def test_within_four_hundred(self):
        # Ten times ten rounds of two puts of two steps each.
        rows = ("put b 1, put b 0, let x + x 1, unless 0 = x 9, put b 1, put b 0, let x 0, let y + y 1, "
                "unless 0 = y 9, put b 0, put b 0, put b 0, put b 0, put b 0, put b 0, put b 0, put b 0, put b 0, "
                "put b 0, put b 0, put b 0, put b 0, put b 0, put b 0, put b 0, put b 0, put b 0, put b 0, put b 0")
        steps = 9 * (9 * 4 + 4) + 20 * 2
        self.assertEqual(steps, 400)
        stand = self.goes(writing(rows, 400), [("w", 1)] + [("w", 0)] * 399)
        self.assertEqual(stand[0][0][:4], (28, (), 1, 399))
        stand = self.goes(writing(rows, 400), [("w", 1)] + [("w", 0)] * 400)
        self.assertEqual(stand[0][0], (-1, None, 0, 0, (0, 9)))
        self.breaks(writing(rows, 399), [("w", 1)] + [("w", 0)] * 400, ("long", "w"))
        self.breaks(writing(rows + ", put b 0", 400), [("w", 1)] + [("w", 0)] * 401, ("long", "w"))

    def test_a_loop_of_puts_ends_so(self):
        making = writing("put b v, jump 0", 9)
        self.breaks(making, [("w", 1)] + [("w", 0)] * 10, ("long", "w"))

    def test_each_deed_has_its_own_count(self):
        self.goes(writing("put b v", 2), [("w", 1), ("w", 0), ("w", 0)] * 50)

    def test_a_count_that_is_just_within_in_a_stand_handed_in(self):
        making = passed_on("safe", "steady", within=7)
        stand = (((0, None, 1, 7, ()), (-1, None, 0, 0, (0,))), ((0, -1),), (0, 1, (None,)))
        self.assertEqual(stepped(making, stand, ("w", 0)), (None, ("long", "w"), []))


class GreatTest(BreaksTest):
    def test_a_put_of_each_kind(self):
        for kind in KINDS:
            box = f"box b {kind} 3 0 w"
            for number in range(3, 10):
                self.breaks(writing(f"put b {number}", 9, box), [("w", 0), ("w", 0)], ("great", "w"))
            self.goes(writing("put b 2", 9, box), [("w", 0), ("w", 0)])

    def test_the_number_is_that_of_the_expression(self):
        making = writing("put b + v v", 9, "box b steady 3 0 w", "safe 3 0")
        self.goes(making, [("w", 1), ("w", 0), ("w", 0)])
        self.breaks(making, [("w", 2), ("w", 0)], ("great", "w"))

    def test_a_put_of_a_reader(self):
        self.breaks(reading("put b 2, tell 0", 9, "box b safe 2 0 r"), [("r", 0), ("r", 0)], ("great", "r"))

    def test_a_number_told_that_is_no_worth_of_the_made_box(self):
        for kind in KINDS:
            for size in range(2, 10):
                making = reading(f"tell {size}", 9, kind=f"{kind} {size} 0")
                self.breaks(making, [("r", 0)], ("great", "r"), [("begin", "r")])
            self.breaks(reading("tell 9", 9, kind=f"{kind} 2 0"), [("r", 0)], ("great", "r"), [("begin", "r")])
        self.goes(reading("tell 9", 0, kind="whole 10 9"), [("r", 0)])

    def test_told_behind_a_get(self):
        making = reading("get x b, tell + x 1", 9, "box b steady 2 1 w")
        self.breaks(making, [("r", 0), ("r", 0), ("r", 1)], ("great", "r"))


class StuckTest(BreaksTest):
    def stuck(self, rows, worth=0):
        self.breaks(writing(rows, 9), [("w", worth)], ("stuck", "w"), [("begin", "w", worth)])

    def test_of_the_writer(self):
        self.stuck("jump 0")
        self.stuck("unless 0 0")
        self.stuck("let x 1, jump 0")
        self.stuck("let x x, unless 0 0")
        self.stuck("jump 1, jump 2, jump 1")
        self.stuck("let x + x 1, jump 0")
        self.stuck("let x - 1 x, jump 0")
        self.stuck("unless 2 v, done, jump 0", 0)
        self.goes(writing("unless 2 v, done, jump 0", 9), [("w", 1)])

    def test_of_a_reader(self):
        self.breaks(reading("jump 0", 9), [("r", 0)], ("stuck", "r"), [("begin", "r")])
        self.breaks(reading("let x - 1 x, jump 0, tell 0", 9), [("r", 0)], ("stuck", "r"), [("begin", "r")])

    def test_behind_a_put_and_a_get(self):
        self.breaks(writing("put b v, jump 1", 9), [("w", 1), ("w", 0), ("w", 0)], ("stuck", "w"))
        whole = "box b whole 2 0 w"
        self.breaks(writing("put b v, jump 1", 9, whole), [("w", 1), ("w", 0)], ("stuck", "w"))
        self.breaks(reading("get x b, jump 1, tell 0", 9), [("r", 0), ("r", 0), ("r", 0)], ("stuck", "r"))
        self.breaks(reading("get x b, jump 1, tell 0", 9, whole), [("r", 0), ("r", 0)], ("stuck", "r"))

    def test_behind_a_long_way_and_in_a_long_round(self):
        count = "let x + x 1, unless 0 = x 9, let x 0, let y + y 1, unless 0 = y 9, let y 0"
        self.stuck(count + ", jump 6")
        self.stuck(count + ", let z - 1 z, jump 0")
        self.stuck(count + ", let z + z 1, unless 0 = z 9, let z 0, jump 0")

    def test_the_same_rows_in_two_steps_are_not_stuck(self):
        making = writing("let x 1, put b 0, unless 5 y, done, done, let y 1, jump 0", 9)
        stand = self.goes(making, [("w", 0), ("w", 0), ("w", 0)])
        self.assertEqual(stand[0][0], (1, None, 0, 2, (1, 1)))

    def test_rows_that_come_again_with_other_numbers(self):
        stand = self.goes(writing("let x + x 1, unless 0 = x 9", 9), [("w", 0)])
        self.assertEqual(stand[0][0], (-1, None, 0, 0, (9,)))
        # The tenth time the sum stays at nine.
        self.stuck("let x + x 1, unless 0 < 9 x")


class SilentTest(BreaksTest):
    def test_a_reader_behind_its_last_row(self):
        making = made("makes safe 2 0, hand w 0, hand r 0, hand s 0, tell 0")
        self.breaks(making, [("r", 0)], ("silent", "r"), [("begin", "r")])
        self.breaks(reading("let x 1", 0), [("r", 0)], ("silent", "r"), [("begin", "r")])
        self.breaks(reading("jump 2, tell 0", 0), [("r", 0)], ("silent", "r"), [("begin", "r")])
        self.breaks(reading("unless 2 0, tell 0", 0), [("r", 0)], ("silent", "r"), [("begin", "r")])
        self.goes(making, [("w", 1), ("w", 0), ("s", 0)])

    def test_behind_a_get_and_a_put(self):
        self.breaks(reading("get x b", 9), [("r", 0), ("r", 0), ("r", 0)], ("silent", "r"))
        self.breaks(reading("get x b", 9, "box b whole 2 0 w"), [("r", 0), ("r", 0)], ("silent", "r"))
        self.breaks(reading("put b 1", 9, "box b safe 2 0 r"), [("r", 0), ("r", 0), ("r", 0)], ("silent", "r"))

    def test_not_of_a_writer(self):
        self.goes(made("makes safe 2 0, hand w 0, hand r 0"), [("w", 1), ("w", 0)])


class TellsTest(BreaksTest):
    def test_of_each_made_kind(self):
        for kind in KINDS:
            making = made(f"makes {kind} 3 1, hand w 0, hand r 0, tell 2")
            self.breaks(making, [("r", 0)], ("tells", "r"), [("begin", "r"), ("end", "r", 2)])
            self.goes(making, [("w", 2), ("r", 0)])

    def test_behind_a_get(self):
        for kind in KINDS:
            making = passed_on(kind, "safe", 3)
            weaving = [("w", 0), ("w", 0), ("r", 0), ("r", 0), ("r", 2)]
            if kind == "safe":
                self.goes(making, weaving)
            else:
                self.breaks(making, weaving, ("tells", "r"), [("end", "r", 2)])

    def test_an_older_worth_behind_a_newer_one(self):
        weaving = [("w", 1), ("w", 0), ("r", 0), ("r", 0), ("r", 1), ("r", 0), ("r", 0), ("r", 0)]
        for kind in ("safe", "steady"):
            self.goes(passed_on(kind, "steady"), weaving)
        self.breaks(passed_on("whole", "steady"), weaving, ("tells", "r"), [("end", "r", 0)])
        between = [("w", 1), ("w", 0), ("r", 0), ("r", 0), ("r", 1), ("s", 0), ("s", 0), ("s", 0)]
        self.breaks(passed_on("whole", "steady", readers=2), between, ("tells", "s"), [("end", "s", 0)])

    def test_claims_of_less_and_of_nothing(self):
        reads = (0, None, 0, 0, (0,))
        for kind, claim in (("safe", (0, -1, ((),))), ("steady", (0, -1, ((1,),))), ("whole", ()),
                            ("whole", ((0, -1, (1,)),)), ("whole", ((0, -1, (-2,)),))):
            making = passed_on(kind, "whole")
            stand = ((IDLE, reads), ((0, -1),), claim)
            self.assertEqual(stepped(making, stand, ("r", 0)), (None, ("tells", "r"), [("end", "r", 0)]))

    def test_a_great_number_ahead_of_it(self):
        making = reading("tell 2", 0, kind="steady 2 0")
        self.breaks(making, [("r", 0)], ("great", "r"), [("begin", "r")])


class NamesTest(BreaksTest):
    def test_the_hand_is_the_one_that_steps(self):
        making = made("makes safe 2 0, hand one 0, jump 0, hand two 0, jump 0, hand three 0, tell 9, hand four 0")
        self.breaks(making, [("one", 1)], ("stuck", "one"), [("begin", "one", 1)])
        self.breaks(making, [("two", 0)], ("stuck", "two"), [("begin", "two")])
        self.breaks(making, [("three", 0)], ("great", "three"), [("begin", "three")])
        self.breaks(making, [("four", 0)], ("silent", "four"), [("begin", "four")])


if __name__ == "__main__":
    unittest.main()
