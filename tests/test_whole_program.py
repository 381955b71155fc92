"""Point 2 over the whole program: refusals, what is handed in, what is told, arguments by their names."""

import copy
import itertools
import unittest

from programs import STEADY_OF_SAFE, made, passed_on
from strongboxes.claims import claim_begun, claim_reads, claim_told, claim_writes, claim_written
from strongboxes.desk import Desk
from strongboxes.errors import (
    NoEvents, NoLine, NoMaking, NoPaper, NoStep, NoText, NoUpon, StrongError, TooMany,
)
from strongboxes.exprs import number_of
from strongboxes.judge import judged
from strongboxes.makings import check_making
from strongboxes.moments import bears_out, moments_of
from strongboxes.papers import check_paper, covers
from strongboxes.runner import walked
from strongboxes.seek import seek
from strongboxes.stands import first_stand, stepped, steps_of
from strongboxes.texts import read_making, shown_making
from strongboxes.turned import needless, turned
from strongboxes.upon import put_upon

REFUSALS = (NoEvents, NoLine, NoMaking, NoPaper, NoStep, NoText, NoUpon, TooMany)
MAKING = STEADY_OF_SAFE
WHOLE = passed_on("whole", "steady", 2, 2)
TEXT = shown_making(MAKING)
STAND = first_stand(MAKING)
EVENTS = [("begin", "w", 1), ("begin", "r"), ("end", "r", 1), ("end", "w")]
WEAVING = [("w", 1), ("w", 0), ("r", 0), ("r", 0), ("r", 1)]
PAPER = seek(MAKING, 100)[1]
READS = claim_reads(MAKING, claim_begun(MAKING), 0)
WRITES = claim_writes(MAKING, claim_begun(MAKING), 1)

# Each function of the interface with its arguments by their names, in their order.
CALLS = (
    (check_making, {"making": MAKING}),
    (shown_making, {"making": MAKING}),
    (read_making, {"text": TEXT}),
    (number_of, {"expression": ("+", ("var", "x"), ("num", 2)), "numbers": {"x": 3}}),
    (claim_begun, {"making": MAKING}),
    (claim_writes, {"making": MAKING, "claim": claim_begun(MAKING), "worth": 1}),
    (claim_written, {"making": MAKING, "claim": WRITES}),
    (claim_reads, {"making": MAKING, "claim": WRITES, "reader": 0}),
    (claim_told, {"making": MAKING, "claim": READS, "reader": 0, "worth": 0}),
    (claim_told, {"making": MAKING, "claim": READS, "reader": 0, "worth": 1}),
    (judged, {"making": MAKING, "events": EVENTS}),
    (bears_out, {"making": MAKING, "events": EVENTS, "order": [0, 1]}),
    (bears_out, {"making": MAKING, "events": EVENTS, "order": [1, 0]}),
    (moments_of, {"making": MAKING, "events": EVENTS}),
    (first_stand, {"making": MAKING}),
    (steps_of, {"making": MAKING, "stand": STAND}),
    (stepped, {"making": MAKING, "stand": STAND, "step": ("w", 1)}),
    (walked, {"making": MAKING, "weaving": WEAVING}),
    (walked, {"making": WHOLE, "weaving": seek(WHOLE, 9999)[1]}),
    (seek, {"making": MAKING, "most": 100}),
    (seek, {"making": WHOLE, "most": 9999}),
    (covers, {"making": MAKING, "one": READS, "other": READS}),
    (check_paper, {"making": MAKING, "paper": PAPER}),
    (put_upon, {"outer": WHOLE, "name": "b", "inner": passed_on("steady", "steady", 2, 2)}),
    (turned, {"making": MAKING}),
    (needless, {"making": MAKING, "most": 100}),
)

# Calls that are refused, each with its class and, where there is one, its at.
REFUSED = (
    (NoMaking, None, lambda: check_making(None)),
    (NoMaking, None, lambda: read_making(TEXT.replace("steady 2", "steady 1"))),
    (NoText, 0, lambda: read_making(None)),
    (NoText, 3, lambda: read_making(TEXT.replace("unless", "until"))),
    (NoEvents, 0, lambda: judged(MAKING, None)),
    (NoEvents, 1, lambda: bears_out(MAKING, EVENTS[:1] * 2, [])),
    (NoEvents, 0, lambda: moments_of(MAKING, EVENTS[2:])),
    (NoStep, 0, lambda: stepped(MAKING, STAND, ("w", True))),
    (NoStep, 5, lambda: walked(MAKING, WEAVING + [None])),
    (TooMany, None, lambda: seek(MAKING, 51)),
    (NoPaper, -1, lambda: check_paper(MAKING, tuple(PAPER))),
    (NoPaper, 7, lambda: check_paper(MAKING, PAPER[:7] + [None] + PAPER[7:])),
    (NoUpon, None, lambda: put_upon(MAKING, "c", MAKING)),
    (NoText, 0, lambda: Desk("")),
    (NoMaking, None, lambda: Desk(TEXT.replace("steady 2", "steady 1"))),
    (NoLine, None, lambda: Desk(TEXT).say("back")),
    (NoStep, 0, lambda: Desk(TEXT).say("do w 2")),
    (TooMany, None, lambda: Desk(TEXT).say("seek 1")),
    (TooMany, None, lambda: Desk(TEXT).say("check 1")),
)


def places_of(thing, found):
    """Every list and dict within a thing."""
    if isinstance(thing, (list, dict)):
        found.append(thing)
    parts = thing.values() if isinstance(thing, dict) else thing if isinstance(thing, (list, tuple)) else ()
    for part in parts:
        places_of(part, found)
    return found


class RefusalsTest(unittest.TestCase):
    def test_each_is_one_class_alone(self):
        met = set()
        for refusal, at, call in REFUSED:
            with self.assertRaises(ValueError) as taken:
                call()
            self.assertIs(type(taken.exception), refusal)
            self.assertIsInstance(taken.exception, StrongError)
            for other in REFUSALS:
                self.assertEqual(isinstance(taken.exception, other), other is refusal)
            self.assertEqual(getattr(taken.exception, "at", None), at)
            met.add(refusal)
        self.assertEqual(met, set(REFUSALS))

    def test_the_same_again(self):
        for refusal, at, call in REFUSED * 2:
            with self.assertRaises(refusal):
                call()


class CallsTest(unittest.TestCase):
    def test_arguments_by_their_names_in_any_order(self):
        for function, arguments in CALLS:
            asked = function(*arguments.values())
            for names in itertools.permutations(arguments):
                with self.subTest(function=function.__name__, names=names):
                    self.assertEqual(function(**{name: arguments[name] for name in names}), asked)

    def test_what_is_handed_in_stays_as_it_was(self):
        for function, arguments in CALLS:
            before = copy.deepcopy(arguments)
            function(**arguments)
            with self.subTest(function=function.__name__):
                self.assertEqual(arguments, before)
                self.assertEqual(repr(arguments), repr(before))

    def test_what_is_told_is_new_and_stands_at_one_place(self):
        for function, arguments in CALLS:
            with self.subTest(function=function.__name__):
                told = places_of(function(**arguments), [])
                again = places_of(function(**arguments), [])
                handed = places_of(arguments, [])
                every = [id(thing) for thing in told + again + handed]
                self.assertEqual(len(every), len(set(every)))

    def test_what_is_done_to_it_changes_nothing(self):
        for function, arguments in CALLS:
            asked = copy.deepcopy(function(**arguments))
            for thing in places_of(function(**arguments), []):
                thing.clear()
            with self.subTest(function=function.__name__):
                self.assertEqual(function(**arguments), asked)

    def test_what_is_done_to_what_was_handed_in_changes_nothing(self):
        for function, arguments in CALLS:
            arguments = copy.deepcopy(arguments)
            told = function(**arguments)
            asked = copy.deepcopy(told)
            for thing in places_of(arguments, []):
                thing.clear()
            with self.subTest(function=function.__name__):
                self.assertEqual(told, asked)

    def test_truths_and_numbers(self):
        for function, arguments in CALLS:
            told = function(**arguments)
            if function in (judged, bears_out, covers):
                self.assertIs(type(told), bool)
            else:
                self.assertFalse(self.truths_in(told), function.__name__)

    def truths_in(self, thing):
        """Whether a truth stands anywhere in what is told."""
        parts = thing.values() if isinstance(thing, dict) else thing if isinstance(thing, (list, tuple)) else ()
        return isinstance(thing, bool) or any(self.truths_in(part) for part in parts)

    def test_the_desk_by_names(self):
        desk = Desk(text=TEXT)
        self.assertEqual(desk.say(line="do w 1"), "begin w 1")

    def test_objects_are_the_same_from_call_to_call(self):
        for function, arguments in CALLS:
            self.assertEqual(function(**arguments), function(**copy.deepcopy(arguments)))


class MakingsTest(unittest.TestCase):
    def test_the_least_making_goes_through_all(self):
        making = made("makes safe 2 0, hand w 0, hand r 0")
        stand = first_stand(making)
        self.assertIsNone(check_making(making))
        self.assertEqual(read_making(shown_making(making)), making)
        self.assertEqual(steps_of(making, stand), [("w", 0), ("w", 1), ("r", 0)])
        self.assertEqual(seek(making, 9), ("break", [("r", 0)]))
        self.assertEqual((turned(making), needless(making, 9)), ([], []))
        self.assertEqual(Desk(shown_making(making)).say("steps"), "w 0; w 1; r 0")


if __name__ == "__main__":
    unittest.main()
