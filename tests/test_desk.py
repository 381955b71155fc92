"""Points 22 and 23: the desk, line by line."""

import random
import unittest

from plain_hands import near_making, some_making, some_weaving
from programs import STEADY_OF_SAFE, made, passed_on, with_kind
from strongboxes.desk import Desk
from strongboxes.errors import TooMany
from strongboxes.judge import judged
from strongboxes.papers import check_paper
from strongboxes.runner import walked
from strongboxes.seek import seek
from strongboxes.stands import steps_of
from strongboxes.texts import shown_making
from strongboxes.turned import needless, turned


def desk_of(making):
    return Desk(shown_making(making))


def words(things):
    return "; ".join(" ".join(str(part) for part in thing) for thing in things) or "none"


class DeskTest(unittest.TestCase):
    def says(self, desk, *lines):
        """Each line is a line and its answer."""
        for line, answer in lines:
            told = desk.say(line)
            self.assertIs(type(told), str)
            self.assertEqual(told, answer, line)


class LinesTest(DeskTest):
    def test_at_first(self):
        self.says(
            desk_of(STEADY_OF_SAFE),
            ("making", shown_making(STEADY_OF_SAFE)),
            ("weaving", "none"),
            ("steps", "w 0; w 1; r 0"),
            ("events", "none"),
            ("kept", "yes"),
        )

    def test_steps_done_and_taken_back(self):
        self.says(
            desk_of(passed_on("steady", "steady", 3)),
            ("do w 2", "begin w 2"),
            ("weaving", "w 2"),
            ("events", "begin w 2"),
            ("steps", "w 0; r 0"),
            ("do w 0", "none"),
            ("events", "begin w 2"),
            ("do r 0", "begin r"),
            ("do r 0", "none"),
            ("steps", "w 0; r 0; r 2"),
            ("do r 2", "end r 2"),
            ("steps", "w 0; r 0"),
            ("weaving", "w 2; w 0; r 0; r 0; r 2"),
            ("events", "begin w 2; begin r; end r 2"),
            ("do w 0", "end w"),
            ("kept", "yes"),
            ("back", "ok"),
            ("back", "ok"),
            ("weaving", "w 2; w 0; r 0; r 0"),
            ("events", "begin w 2; begin r"),
            ("steps", "w 0; r 0; r 2"),
            ("do r 0", "end r 0"),
            ("events", "begin w 2; begin r; end r 0"),
            ("back", "ok"), ("back", "ok"), ("back", "ok"), ("back", "ok"), ("back", "ok"),
            ("weaving", "none"),
            ("events", "none"),
            ("steps", "w 0; w 1; w 2; r 0"),
        )

    def test_a_step_with_two_events(self):
        self.says(
            desk_of(made("makes safe 2 0, hand ww 0, hand rr 0, tell 0")),
            ("do ww 0", "begin ww 0; end ww"),
            ("do rr 0", "begin rr; end rr 0"),
            ("events", "begin ww 0; end ww; begin rr; end rr 0"),
            ("weaving", "ww 0; rr 0"),
        )

    def test_breaks(self):
        self.says(
            desk_of(passed_on("steady", "safe", 3)),
            ("do w 0", "begin w 0"), ("do w 0", "none"), ("do r 0", "begin r"), ("do r 0", "none"),
            ("do r 2", "broke tells r"),
            ("weaving", "w 0; w 0; r 0; r 0; r 2"),
            ("steps", "none"),
            ("events", "begin w 0; begin r; end r 2"),
            ("kept", "no"),
            ("back", "ok"),
            ("kept", "yes"),
            ("steps", "w 0; r 0; r 1; r 2"),
            ("events", "begin w 0; begin r"),
            ("do r 0", "end r 0"),
        )

    def test_the_words_of_each_break(self):
        for rows, step, answer, events in (
            ("hand w 0, put b v, hand r 0", ("do w 1", "do w 0"), "broke long w", "begin w 1"),
            ("hand w 9, put b 3, hand r 0", ("do w 1", "do w 0"), "broke great w", "begin w 1"),
            ("hand w 9, jump 0, hand r 0", ("do w 1",), "broke stuck w", "begin w 1"),
            ("hand w 9, hand r 0", ("do r 0",), "broke silent r", "begin r"),
            ("hand w 9, hand r 0, tell 2", ("do r 0",), "broke great r", "begin r"),
            ("hand w 9, hand r 0, tell 1", ("do r 0",), "broke tells r", "begin r; end r 1"),
        ):
            desk = desk_of(made("makes safe 2 0, box b safe 2 0 w", rows))
            for line in step[:-1]:
                desk.say(line)
            kept = "no" if "tells" in answer else "yes"
            self.says(desk, (step[-1], answer), ("events", events), ("kept", kept), ("steps", "none"))

    def test_seek_and_check(self):
        self.says(
            desk_of(STEADY_OF_SAFE),
            ("seek 52", "paper 52"), ("seek 100000", "paper 52"), ("check 52", "ok"), ("check 100000", "ok"),
            ("do w 1", "begin w 1"),
            # What was done of a weaving has no part in it.
            ("seek 52", "paper 52"), ("check 999", "ok"), ("weaving", "w 1"),
        )
        self.says(
            desk_of(with_kind(STEADY_OF_SAFE, "whole")),
            ("seek 1000", "break w 1; w 0; r 0; r 0; r 1; r 0; r 0; r 0"), ("check 1000", "none"),
        )
        self.says(
            desk_of(made("makes safe 2 0, hand w 0, jump 0, hand r 0")),
            ("seek 1", "break w 0"), ("check 1", "none"),
        )

    def test_turned_and_turn(self):
        self.says(
            desk_of(STEADY_OF_SAFE),
            ("turned", "less w 0; less w 1; less w 2; less r 0; less r 1; other w 0; other w 1; other r 0"),
            ("needless 1000", "other w 1"),
            ("do w 1", "begin w 1"),
            ("turn 6", "ok"),
            ("weaving", "none"), ("events", "none"), ("kept", "yes"), ("steps", "w 0; w 1; r 0"),
            ("making", "makes steady 2 0\nbox b safe 2 0 w\nhand w 2\nunless 3 not = v old\nlet old v\nput b v\n"
                       "hand r 2\nget x b\ntell x"),
            ("seek 1000", "paper 52"),
            ("turned", "less w 0; less w 1; less w 2; less r 0; less r 1; other w 0; other w 1; other r 0"),
            ("turn 6", "ok"),
            ("making", shown_making(STEADY_OF_SAFE)),
            ("turn 0", "ok"),
            ("turned", "less w 0; less w 1; less r 0; less r 1; other w 0; other r 0"),
            ("turn 1", "ok"), ("turn 0", "ok"),
            ("making", "makes steady 2 0\nbox b safe 2 0 w\nhand w 2\nhand r 2\nget x b\ntell x"),
        )

    def test_none_where_there_is_nothing(self):
        desk = desk_of(made("makes safe 2 0, box b safe 2 0 w, hand w 0, hand r 0"))
        for line in ("weaving", "events", "turned", "needless 7"):
            self.says(desk, (line, "none"))
        self.says(desk_of(passed_on("safe", "safe")), ("needless 1000", "none"))

    def test_weaker_boxes_are_told(self):
        self.says(
            desk_of(passed_on("steady", "whole")),
            ("turned", "weaker b; less w 0; less r 0; less r 1; other r 0"),
            ("needless 1000", "weaker b"),
            ("turn 0", "ok"), ("needless 1000", "none"), ("turned", "weaker b; less w 0; less r 0; less r 1; other r 0"),
            ("turn 0", "ok"), ("turned", "less w 0; less r 0; less r 1; other r 0"),
        )

    def test_turn_behind_a_break(self):
        desk = desk_of(made("makes safe 2 0, hand w 0, jump 0, hand r 0, tell 0"))
        self.says(desk, ("do w 1", "broke stuck w"), ("steps", "none"), ("turn 0", "ok"), ("steps", "w 0; w 1; r 0"),
                  ("do w 0", "begin w 0; end w"))

    def test_by_their_names(self):
        self.says(Desk(text=shown_making(STEADY_OF_SAFE)), ("weaving", "none"))
        self.assertEqual(desk_of(STEADY_OF_SAFE).say(line="do w 1"), "begin w 1")


class BesideTheFunctionsTest(DeskTest):
    def test_weavings_by_chance(self):
        chance = random.Random(23)
        for _ in range(120):
            making = chance.choice((some_making, near_making))(chance)
            desk = desk_of(making)
            weaving = some_weaving(making, 15, chance)
            done = []
            for step in weaving:
                if done and chance.random() < 0.2:
                    self.says(desk, ("back", "ok"), ("weaving", words(done[:-1])))
                    desk.say(f"do {done[-1][0]} {done[-1][1]}")
                before = walked(making, done)
                self.says(desk, ("steps", words(steps_of(making, before["stand"]))))
                done.append(step)
                after = walked(making, done)
                events = words(after["events"][len(before["events"]):])
                self.says(
                    desk,
                    (f"do {step[0]} {step[1]}", "broke " + " ".join(after["broken"]) if after["broken"] else events),
                    ("events", words(after["events"])),
                    ("weaving", words(done)),
                    ("kept", "yes" if judged(making, after["events"]) else "no"),
                )
                if after["broken"]:
                    self.says(desk, ("steps", "none"))
                    break

    def test_the_seeker_by_chance(self):
        chance = random.Random(24)
        told = {"paper": 0, "break": 0}
        for _ in range(60):
            making = near_making(chance)
            desk = desk_of(making)
            try:
                word, things = seek(making, 1500)
            except TooMany:
                continue
            told[word] += 1
            if word == "paper":
                check_paper(making, things)
                self.says(desk, ("seek 1500", f"paper {len(things)}"), ("check 1500", "ok"))
            else:
                self.says(desk, ("seek 1500", "break " + words(things)), ("check 1500", "none"))
            self.says(desk, ("turned", words(what for what, _ in turned(making))))
            self.says(desk, ("needless 200", words(needless(making, 200))))
            for number, (_, other) in enumerate(turned(making)):
                desk = desk_of(making)
                self.says(desk, (f"turn {number}", "ok"), ("making", shown_making(other)), ("weaving", "none"))
        self.assertGreater(min(told.values()), 5)


class TwoDesksTest(DeskTest):
    def test_they_change_nothing_for_one_another(self):
        one, other = desk_of(STEADY_OF_SAFE), desk_of(STEADY_OF_SAFE)
        self.says(one, ("do w 1", "begin w 1"), ("do r 0", "begin r"))
        self.says(other, ("weaving", "none"), ("do r 0", "begin r"), ("turn 0", "ok"))
        self.says(one, ("weaving", "w 1; r 0"), ("making", shown_making(STEADY_OF_SAFE)), ("back", "ok"))
        self.says(other, ("weaving", "none"), ("events", "none"))

    def test_many_steps(self):
        desk = desk_of(STEADY_OF_SAFE)
        weaving = some_weaving(STEADY_OF_SAFE, 400, random.Random(22))
        for hand, pick in weaving:
            desk.say(f"do {hand} {pick}")
        self.says(desk, ("weaving", words(weaving)), ("events", words(walked(STEADY_OF_SAFE, weaving)["events"])))
        for _ in weaving:
            self.says(desk, ("back", "ok"))
        self.says(desk, ("weaving", "none"))


if __name__ == "__main__":
    unittest.main()
