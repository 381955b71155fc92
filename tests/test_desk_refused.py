"""Points 22 and 24: what the desk refuses, and that nothing changes by it."""

import unittest

from programs import STEADY_OF_SAFE, made, passed_on
from strongboxes.desk import Desk
from strongboxes.errors import (
    NoEvents, NoLine, NoMaking, NoPaper, NoStep, NoText, NoUpon, StrongError, TooMany,
)
from strongboxes.texts import read_making, shown_making

REFUSALS = (NoEvents, NoLine, NoMaking, NoPaper, NoStep, NoText, NoUpon, TooMany)
ASKING = ("making", "weaving", "steps", "events", "kept", "turned")


class RefusedTest(unittest.TestCase):
    def setUp(self):
        # A desk at first, one in the midst of deeds, and one behind a break.
        self.desks = [self.desk_behind(lines) for lines in (
            (), ("do w 1", "do r 0"), ("do w 0", "do w 0", "do r 0", "do r 0", "do r 1"))]

    def desk_behind(self, lines):
        desk = Desk(shown_making(passed_on("steady", "safe", 2)))
        for line in lines:
            desk.say(line)
        return desk

    def refused(self, desk, line, refusal, at=None):
        """A refusal behind which the desk is as it was."""
        with self.subTest(repr(line)[:60]):
            before = [desk.say(asked) for asked in ASKING]
            with self.assertRaises(refusal) as taken:
                desk.say(line)
            self.assertIs(type(taken.exception), refusal)
            self.assertIsInstance(taken.exception, StrongError)
            self.assertIsInstance(taken.exception, ValueError)
            for other in REFUSALS:
                self.assertEqual(isinstance(taken.exception, other), other is refusal)
            if at is not None:
                self.assertEqual((type(taken.exception.at), taken.exception.at), (int, at))
            self.assertEqual([desk.say(asked) for asked in ASKING], before)

    def no_line(self, *lines):
        for line in lines:
            for desk in self.desks:
                self.refused(desk, line, NoLine)


class NoLineTest(RefusedTest):
    def test_what_is_no_text(self):
        self.no_line(None, 0, 1, True, (), ("making",), ["making"], {}, {"making"}, b"making", 1.5)

    def test_what_is_no_line(self):
        self.no_line("", " ", "\n", "none", "help", "Making", "MAKING", "makings", "makin", "make", "do", "doo w 1",
                     "w 1", "step", "seeks 9", "turns 0", "turnd", "need 9", "paper", "break", "ok", ";", "making;")

    def test_a_word_too_many(self):
        for word in ASKING + ("back",):
            self.no_line(f"{word} 1", f"{word} {word}", f"{word} w", f"{word} none")
        self.no_line("do w 1 1", "do w 1 w", "do w r 0", "seek 9 9", "check 9 ok", "needless 9 9", "turn 0 0")

    def test_a_word_too_few(self):
        self.no_line("do", "do w", "do 1", "seek", "check", "needless", "turn")

    def test_blanks_and_line_feeds(self):
        for line in ASKING + ("back", "do w 1", "seek 9", "check 9", "needless 9", "turn 0"):
            self.no_line(" " + line, line + " ", "\n" + line, line + "\n", "  " + line, line + "\n\n", line + " \n")
            if " " in line:
                self.no_line(line.replace(" ", "  "), line.replace(" ", "\n"), line.replace(" ", " \n"),
                             line.replace(" ", "\n "), line.replace(" ", "", 1))
        self.no_line("do  w 1", "do w  1", "do w\n1", "making\nmaking", "do w 1\ndo r 0", "do w 1; do r 0")

    def test_numbers(self):
        for number in ("00", "01", "007", "1000000", "0000001", "9999999", "-1", "+1", "1.0", "1e3", "x", "", "one",
                       "1 ", " 1", "1_0", "0x1", "1,", "1;", "~", "!"):
            self.no_line(f"do w {number}", f"do r {number}", f"seek {number}", f"check {number}",
                         f"needless {number}", f"turn {number}")

    def test_a_hand_that_is_no_name(self):
        for hand in ("", "W", "w1", "1", "abcdefghi", "w-", "w;", "Hand", "w_w", "0", "-", "~"):
            self.no_line(f"do {hand} 0", f"do {hand} 1")

    def test_back_with_no_step_done(self):
        self.refused(self.desks[0], "back", NoLine)
        desk = self.desk_behind(("do w 1", "back"))
        self.refused(desk, "back", NoLine)
        desk = self.desk_behind(("do w 1", "turn 0"))
        self.refused(desk, "back", NoLine)

    def test_turn_with_a_number_of_none(self):
        for desk in self.desks:
            count = len(desk.say("turned").split("; "))
            self.assertEqual(count, 4)
            for number in (count, count + 1, 99, 999999):
                self.refused(desk, f"turn {number}", NoLine)
        self.desks[0].say("turn 3")
        nothing = Desk("makes safe 2 0\nhand w 0\nhand r 0")
        self.refused(nothing, "turn 0", NoLine)

    def test_numbers_that_are_not_from_1_to_100000(self):
        for word in ("seek", "check", "needless"):
            self.no_line(f"{word} 0", f"{word} 100001", f"{word} 999999", f"{word} 200000")
        desk = Desk(shown_making(made("makes safe 2 0, hand w 0, jump 0, hand r 0")))
        for word, answer in (("seek", "break w 0"), ("check", "none"), ("needless", "none")):
            self.assertEqual(desk.say(f"{word} 1"), answer)
            self.assertEqual(desk.say(f"{word} 100000"), answer)


class NoStepTest(RefusedTest):
    def test_at_is_how_many_steps_are_done(self):
        for desk, count, lines in (
            (self.desks[0], 0, ("do w 2", "do r 1", "do x 0", "do b 0", "do w 999999", "do ww 0", "do abcdefgh 0")),
            (self.desks[1], 2, ("do w 1", "do r 1", "do x 0", "do w 10")),
            (self.desks[2], 5, ("do w 0", "do r 0", "do r 1", "do w 1", "do x 0")),
        ):
            for line in lines:
                self.refused(desk, line, NoStep, count)

    def test_behind_a_break_and_back(self):
        desk = self.desks[2]
        self.refused(desk, "do r 0", NoStep, 5)
        desk.say("back")
        self.refused(desk, "do r 2", NoStep, 4)
        self.assertEqual(desk.say("do r 0"), "end r 0")
        self.refused(desk, "do r 1", NoStep, 5)

    def test_behind_a_turn(self):
        desk = self.desks[1]
        desk.say("turn 0")
        self.refused(desk, "do r 1", NoStep, 0)


class TooManyTest(RefusedTest):
    def test_of_seek_and_check(self):
        desk = Desk(shown_making(STEADY_OF_SAFE))
        for line in ("seek 51", "check 51", "seek 1", "check 1"):
            self.refused(desk, line, TooMany)
        self.assertEqual(desk.say("needless 1"), "none")
        desk.say("do w 1")
        self.refused(desk, "seek 51", TooMany)
        self.assertEqual(desk.say("seek 52"), "paper 52")


class NoDeskTest(unittest.TestCase):
    def test_refused_as_read_making_is(self):
        text = shown_making(STEADY_OF_SAFE)
        rows = text.split("\n")
        wrong = [None, 0, True, (), [], b"", "", "\n", "making", text + "\n", "\n" + text, " " + text, text + " "]
        wrong += ["\n".join(rows[:count]) for count in range(len(rows) - 2)]
        wrong += ["\n".join(rows[:count] + ["row"] + rows[count:]) for count in range(len(rows) + 1)]
        wrong += [text.replace("makes steady 2", "makes steady 1"), text.replace("makes steady 2", "makes steady 11"),
                  text.replace("hand r", "hand w"), text.replace("unless 3", "unless 9"), text.replace("tell x", "done"),
                  text.replace("safe 2 0 w", "safe 2 0 r"), text.replace("hand w 2", "hand w 401")]
        told = set()
        for thing in wrong:
            with self.subTest(repr(thing)[:60]):
                with self.assertRaises(StrongError) as asked:
                    read_making(thing)
                with self.assertRaises(StrongError) as taken:
                    Desk(thing)
                self.assertIs(type(taken.exception), type(asked.exception))
                self.assertEqual(getattr(taken.exception, "at", None), getattr(asked.exception, "at", None))
                told.add(type(taken.exception))
        self.assertEqual(told, {NoText, NoMaking})


if __name__ == "__main__":
    unittest.main()
