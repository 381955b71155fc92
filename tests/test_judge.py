"""Point 10: events, whether they are kept, and what of them is refused; of point 3 which kind is stronger."""

import copy
import random
import unittest

from samples import all_events, deeds_in, events_now, some_events, watched
from strongboxes.errors import (
    NoEvents, NoLine, NoMaking, NoPaper, NoStep, NoText, NoUpon, StrongError, TooMany,
)
from strongboxes.judge import judged

KINDS = ("safe", "steady", "whole")
W0, W1, W2, WE = ("begin", "w", 0), ("begin", "w", 1), ("begin", "w", 2), ("end", "w")
RB, R0, R1, R2 = ("begin", "r"), ("end", "r", 0), ("end", "r", 1), ("end", "r", 2)
SB, S0, S1, S2 = ("begin", "s"), ("end", "s", 0), ("end", "s", 1), ("end", "s", 2)


def weak_kept(making, events):
    """Whether events are kept by a safe or steady box, from which deeds fall beside which."""
    deeds = deeds_in(making, events)
    writings = [deed for deed in deeds if deed[0] == "w"]
    for hand, told, begin, end in deeds:
        if hand == "w" or end is None:
            continue
        ahead = [deed for deed in writings if deed[3] is not None and deed[3] < begin]
        beside = [deed for deed in writings if deed not in ahead and deed[2] < end]
        lets = [ahead[-1][1] if ahead else making[2]] + [deed[1] for deed in beside]
        if told not in lets and not (beside and making[0] == "safe"):
            return False
    return True


class JudgedTest(unittest.TestCase):
    def told_of(self, events, asked, size=3, begin=0):
        """Asked has what safe, steady and whole boxes tell, in this order."""
        with self.subTest(events):
            told = [judged(watched(kind, size, begin, 2), events) for kind in KINDS]
            self.assertEqual(told, list(asked))
            for answer in told:
                self.assertIs(type(answer), bool)


class KeptTest(JudgedTest):
    def test_none(self):
        self.told_of([], (True, True, True))

    def test_a_reading_beside_no_writing(self):
        for begin in range(3):
            for worth in range(3):
                kept = worth == begin
                self.told_of([RB, ("end", "r", worth)], (kept, kept, kept), begin=begin)

    def test_a_reading_behind_a_writing(self):
        self.told_of([W1, WE, RB, R1], (True, True, True))
        self.told_of([W1, WE, RB, R0], (False, False, False))
        self.told_of([W1, WE, W2, WE, RB, R1], (False, False, False))
        self.told_of([W1, WE, W2, WE, RB, R2], (True, True, True))
        self.told_of([W1, WE, W0, WE, RB, R0], (True, True, True))

    def test_a_reading_ahead_of_a_writing(self):
        self.told_of([RB, R0, W1, WE], (True, True, True))
        self.told_of([RB, R1, W1, WE], (False, False, False))
        self.told_of([RB, R1, W1], (False, False, False))

    def test_a_reading_beside_one_writing(self):
        for events in ([W1, RB, "told", WE], [RB, W1, "told", WE], [W1, RB, WE, "told"], [RB, W1, WE, "told"],
                       [RB, W1, "told"], [W1, RB, "told"]):
            for worth, asked in ((0, (True, True, True)), (1, (True, True, True)), (2, (True, False, False))):
                self.told_of([("end", "r", worth) if event == "told" else event for event in events], asked)

    def test_a_reading_beside_two_writings(self):
        for ends in ([], [WE]):
            for worth in range(3):
                self.told_of([RB, W1, WE, W2] + ends + [("end", "r", worth)], (True, True, True))
                self.told_of([W1, RB, WE, W2] + ends + [("end", "r", worth)], (True, True, True))
            self.told_of([RB, W1, WE, W1] + ends + [R2], (True, False, False))
            self.told_of([W1, WE, RB, W2, WE, W2] + ends + [R0], (True, False, False))

    def test_a_writing_of_the_worth_that_is_there(self):
        self.told_of([W0, RB, R0], (True, True, True))
        self.told_of([W0, RB, R1], (True, False, False))

    def test_the_later_of_two_readings_tells_the_older_worth(self):
        self.told_of([W1, RB, R1, RB, R0], (True, True, False))
        self.told_of([W1, RB, R1, SB, S0], (True, True, False))
        self.told_of([W1, RB, R1, SB, WE, S0], (True, True, False))
        self.told_of([W1, RB, R0, SB, S1], (True, True, True))
        self.told_of([W1, RB, SB, R1, S0], (True, True, True))
        self.told_of([W1, RB, R1, WE, SB, S0], (False, False, False))
        self.told_of([RB, W1, SB, S1, R0], (True, True, True))
        self.told_of([RB, W1, WE, SB, S1, R0], (True, True, True))

    def test_a_worth_that_comes_back(self):
        self.told_of([W1, RB, R1, WE, W0, SB, S0], (True, True, True))
        self.told_of([SB, W1, RB, R1, WE, W0, RB, R1, S0], (True, True, True))
        self.told_of([W1, WE, W0, RB, R0, RB, R1], (True, True, False))

    def test_deeds_that_did_not_end(self):
        self.told_of([RB], (True, True, True))
        self.told_of([W1], (True, True, True))
        self.told_of([W1, RB, SB], (True, True, True))

    def test_a_later_telling_does_not_mend_an_earlier_one(self):
        self.told_of([RB, R1, RB, R0], (False, False, False))
        self.told_of([RB, R1, W1, WE, RB, R1], (False, False, False))

    def test_the_begin_of_the_made_box(self):
        self.told_of([W1, RB, R2, WE], (True, True, True), begin=2)
        self.told_of([W1, RB, R0, WE], (True, False, False), begin=2)

    def test_four_hands_by_any_names(self):
        making = ("whole", 2, 0, (), (("zz", 0, ()), ("end", 0, ()), ("begin", 0, ()), ("a", 0, ())))
        events = [("begin", "zz", 1), ("begin", "a"), ("end", "a", 1), ("begin", "end"), ("begin", "begin"),
                  ("end", "begin", 1)]
        self.assertTrue(judged(making, events + [("end", "end", 1)]))
        self.assertFalse(judged(making, events + [("end", "end", 0)]))

    def test_arguments_by_their_names(self):
        self.assertIs(judged(making=watched("safe"), events=[("begin", "r"), ("end", "r", 1)]), False)

    def test_the_events_stay_as_they_were(self):
        events = [W1, RB, R1, SB, S0]
        before = copy.deepcopy(events)
        for kind in KINDS:
            judged(watched(kind, 3, 0, 2), events)
            self.assertEqual(events, before)

    def test_what_is_done_to_the_events_later_changes_nothing(self):
        making = watched("whole", 2, 0, 1)
        events = [RB, R1]
        self.assertFalse(judged(making, events))
        events[1] = R0
        self.assertTrue(judged(making, events))
        events.clear()
        self.assertTrue(judged(making, events))


class EveryEventsTest(unittest.TestCase):
    def test_weak_boxes_by_what_falls_beside_what(self):
        for kind in ("safe", "steady"):
            for size, begin, readers, length in ((2, 1, 1, 7), (3, 0, 1, 6), (2, 0, 2, 5)):
                making = watched(kind, size, begin, readers)
                for events in all_events(making, length):
                    self.assertEqual(judged(making, events), weak_kept(making, events), (making, events))

    def test_longer_ones_of_weak_boxes(self):
        chance = random.Random(10)
        for kind in ("safe", "steady"):
            making = watched(kind, 3, 2, 3)
            for _ in range(300):
                events = some_events(making, 12, chance)
                self.assertEqual(judged(making, events), weak_kept(making, events), (making, events))

    def test_what_a_stronger_kind_keeps_a_weaker_one_does(self):
        seen = set()
        for events in all_events(watched("safe", 2, 0, 2), 6) + all_events(watched("safe", 3, 0, 1), 6):
            readers = 2 if any("s" in event for event in events) else 1
            told = tuple(judged(watched(kind, 3, 0, readers), events) for kind in KINDS)
            self.assertIn(told, ((True, True, True), (True, True, False), (True, False, False), (False, False, False)))
            seen.add(told)
        self.assertEqual(len(seen), 4)

    def test_each_beginning_of_kept_events_is_kept(self):
        chance = random.Random(11)
        for kind in KINDS:
            making = watched(kind, 3, 0, 3)
            for _ in range(60):
                events = self.kept_events(making, 20, chance)
                for length in range(len(events) + 1):
                    self.assertTrue(judged(making, events[:length]), events[:length])

    def kept_events(self, making, length, chance):
        events = []
        while len(events) < length:
            longer = events + [chance.choice(events_now(making, events))]
            events = longer if judged(making, longer) else events
        return events


class RefusedTest(unittest.TestCase):
    def refused(self, events, at, making=None, label=None):
        for kind in KINDS:
            with self.subTest(label or repr(events), kind=kind):
                with self.assertRaises(NoEvents) as taken:
                    judged(making or watched(kind, 3, 0, 2), events)
                self.assertIs(type(taken.exception), NoEvents)
                self.assertEqual((type(taken.exception.at), taken.exception.at), (int, at))

    def test_what_is_no_list(self):
        for thing in (None, (), (RB, R0), {}, "", "events", 0, 1, True, {"begin": "w"}, set(), iter([])):
            self.refused(thing, 0)

    def test_the_class_of_the_refusal(self):
        with self.assertRaises(StrongError) as taken:
            judged(watched("safe"), None)
        self.assertIsInstance(taken.exception, ValueError)
        for other in (NoMaking, NoText, NoStep, NoPaper, TooMany, NoUpon, NoLine):
            self.assertNotIsInstance(taken.exception, other)

    def test_what_is_no_event(self):
        wrong = [
            None, 0, True, "begin", "", (), [], {}, ("begin",), ("end",), (None, None), ("begin", None),
            ("Begin", "r"), ("begins", "r"), ("start", "r"), ("", "r"), (None, "r"), (0, "r"), (["begin"], "r"),
            ("begin", "t"), ("begin", "x"), ("begin", ""), ("begin", "R"), ("begin", 1), ("begin", ["r"]),
            ("begin", ("r",)), ("begin", {}), ("begin", "r", 0), ("begin", "r", None), ("begin", "r", 0, 0),
            ("begin", "w"), ("begin", "w", 0, 0), ("begin", "w", None), ("begin", "w", -1), ("begin", "w", 3),
            ("begin", "w", 10), ("begin", "w", True), ("begin", "w", False), ("begin", "w", "1"), ("begin", "w", 1.0),
            ("begin", "w", (1,)), ("begin", "w", [1]), ["begin", "r"], ["begin", "w", 1], "br", ("r", "begin"),
            ("w", "begin", 1), ("begin", 1, "w"),
        ]
        for thing in wrong:
            self.refused([thing], 0)
            self.refused([W1, WE, RB, R1, thing, RB], 4)

    def test_what_is_no_end(self):
        wrong = [
            ("end", "w", 0), ("end", "w", 1), ("end", "w", None), ("end", "w", 1, 1), ("ends", "w"), ("end", "W"),
            ("end", "r"), ("end", "r", -1), ("end", "r", 3), ("end", "r", 9), ("end", "r", True), ("end", "r", False),
            ("end", "r", "0"), ("end", "r", None), ("end", "r", 0.0), ("end", "r", (0,)), ("end", "r", 0, 0),
            ("stop", "r", 0), ("end", "x", 0), ["end", "r", 0], ["end", "w"], ("end", ["r"], 0), ("end",), None,
        ]
        for thing in wrong:
            self.refused([W1, RB, thing], 2)
            self.refused([W1, RB, thing, WE, R0], 2)

    def test_the_worths_are_those_of_the_made_box(self):
        for size in range(2, 11):
            making = watched("steady", size, 0, 1)
            self.assertTrue(judged(making, [("begin", "w", size - 1), RB, ("end", "r", size - 1)]))
            self.refused([("begin", "w", size)], 0, making)
            self.refused([W1, RB, ("end", "r", size)], 2, making)

    def test_the_hands_are_those_of_the_making(self):
        making = watched("steady", 2, 0, 1)
        self.refused([SB], 0, making)
        self.refused([RB, R0, SB], 2, making)

    def test_ends_of_what_did_not_begin(self):
        self.refused([WE], 0)
        self.refused([R0], 0)
        self.refused([SB, R0], 1)
        self.refused([RB, S0], 1)
        self.refused([RB, WE], 1)
        self.refused([W1, R0], 1)
        self.refused([W1, WE, WE], 2)
        self.refused([RB, R0, R0], 2)
        self.refused([RB, R0, RB, R0, W1, WE, R0], 6)

    def test_begins_of_what_goes_on(self):
        self.refused([W1, W1], 1)
        self.refused([W1, W2], 1)
        self.refused([RB, RB], 1)
        self.refused([RB, SB, W1, RB], 3)
        self.refused([RB, R0, RB, SB, W1, WE, SB], 6)

    def test_the_first_of_several(self):
        self.refused([RB, None, RB, None], 1)
        self.refused([RB, RB, None], 1)
        self.refused([None, RB, RB], 0)

    def test_behind_a_telling_that_is_not_kept(self):
        for last in (None, R0, WE, ("begin", "x"), ("begin", "w", 9), ["begin", "r"]):
            self.refused([RB, R2, last], 2)
            self.refused([RB, R2, W1, WE, SB, S1, last], 6)
        self.refused([RB, R2, RB, RB], 3)

    def test_also_where_the_telling_is_not_kept_itself(self):
        self.refused([RB, ("end", "r", 3)], 1)

    def test_things_nested_thousands_deep(self):
        deep = ()
        for _ in range(100000):
            deep = (deep,)
        for place, event in enumerate((deep, ("begin", deep), ("begin", "w", deep), (deep, "w"))):
            self.refused([event], 0, label=f"deep {place}")


if __name__ == "__main__":
    unittest.main()
