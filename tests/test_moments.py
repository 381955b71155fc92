"""Point 25: orders of deeds that bear events out."""

import copy
import itertools
import random
import unittest

from samples import all_events, deeds_in, events_now, some_events, watched
from strongboxes.errors import NoEvents
from strongboxes.judge import judged
from strongboxes.moments import bears_out, moments_of

KINDS = ("safe", "steady", "whole")
W0, W1, WE = ("begin", "w", 0), ("begin", "w", 1), ("end", "w")
RB, R0, R1 = ("begin", "r"), ("end", "r", 0), ("end", "r", 1)
SB, S0, S1 = ("begin", "s"), ("end", "s", 0), ("end", "s", 1)


def plainly_borne_out(making, events, order):
    """Whether an order bears events out, each pair of deeds looked at by itself."""
    deeds = deeds_in(making, events)
    for number, (_, _, _, end) in enumerate(deeds):
        if end is None:
            continue
        if number not in order:
            return False
        for other, (_, _, begin, _) in enumerate(deeds):
            if end < begin and other in order and order.index(other) < order.index(number):
                return False
    for place, number in enumerate(order):
        hand, told, _, end = deeds[number]
        written = [deeds[ahead][1] for ahead in order[:place] if deeds[ahead][0] == "w"]
        if hand != "w" and end is not None and told != (written[-1] if written else making[2]):
            return False
    return True


def all_orders(many):
    """Every list of unlike numbers below this one."""
    return [list(order) for length in range(many + 1) for order in itertools.permutations(range(many), length)]


class BearsOutTest(unittest.TestCase):
    def told_of(self, events, order, asked, making=None):
        for kind in KINDS:
            with self.subTest(events=events, order=repr(order)):
                told = bears_out(making or watched(kind, 2, 0, 2), events, order)
                self.assertIs(told, asked)

    def test_no_events(self):
        self.told_of([], [], True)
        for order in ([0], [-1], [None], (), None):
            self.told_of([], order, False)

    def test_each_deed_that_ended_is_in_it(self):
        self.told_of([RB, R0], [0], True)
        self.told_of([RB, R0], [], False)
        self.told_of([W1, WE], [0], True)
        self.told_of([W1, WE], [], False)
        self.told_of([W1, WE, RB, R1], [0], False)
        self.told_of([W1, WE, RB, R1], [1], False)
        self.told_of([W1, RB, R1, SB, S1, WE], [0, 1], False)

    def test_what_did_not_end_may_be_in_it_or_not(self):
        self.told_of([W1], [], True)
        self.told_of([W1], [0], True)
        self.told_of([RB], [], True)
        self.told_of([RB], [0], True)
        for order in ([0], [1, 0], [0, 1], [2, 1, 0], [0, 2, 1], [2, 0]):
            self.told_of([RB, W1, SB, R0], order, order in ([0], [0, 1], [2, 0], [0, 2, 1]))

    def test_a_writing_that_did_not_end_is_read(self):
        self.told_of([W1, RB, R1], [0, 1], True)
        self.told_of([W1, RB, R1], [1], False)
        self.told_of([W1, RB, R1], [1, 0], False)
        self.told_of([W1, RB, R0], [1, 0], True)
        self.told_of([W1, RB, R0], [1], True)
        self.told_of([W1, RB, R0], [0, 1], False)

    def test_a_reading_that_did_not_end_tells_nothing(self):
        self.told_of([W1, WE, RB], [0, 1], True)
        self.told_of([W1, RB, WE], [1, 0], True)

    def test_what_ended_ahead_of_a_begin_stands_ahead_of_it(self):
        self.told_of([RB, R0, SB, S0], [0, 1], True)
        self.told_of([RB, R0, SB, S0], [1, 0], False)
        self.told_of([RB, SB, R0, S0], [1, 0], True)
        self.told_of([W0, WE, RB], [1, 0], False)
        self.told_of([W0, WE, RB], [0, 1], True)
        self.told_of([RB, R0, SB, W1, WE, S0], [0, 1, 2], True)
        self.told_of([RB, R0, SB, W1, WE, S0], [1, 0, 2], False)
        self.told_of([RB, SB, S0, W1, WE, R0], [0, 1, 2], True)
        self.told_of([RB, SB, S0, W1, WE, R0], [1, 0, 2], True)

    def test_not_only_beside_the_next_one(self):
        events = [RB, R0, W0, SB, WE, S0]
        self.told_of(events, [0, 1, 2], True)
        self.told_of(events, [0, 2, 1], True)
        self.told_of(events, [1, 2, 0], False)
        self.told_of(events, [2, 1, 0], False)
        events = [SB, W0, WE, RB, R0, S0]
        self.told_of(events, [0, 1, 2], True)
        self.told_of(events, [1, 2, 0], True)
        self.told_of(events, [2, 0, 1], False)

    def test_each_reading_tells_the_last_writing_ahead(self):
        events = [W1, WE, W0, RB, R1, SB, S0, WE]
        self.told_of(events, [0, 2, 1, 3], True)
        self.told_of(events, [0, 1, 2, 3], False)
        self.told_of(events, [0, 2, 3, 1], False)

    def test_the_begin_where_none_is_ahead(self):
        making = watched("whole", 4, 3)
        self.told_of([RB, ("end", "r", 3)], [0], True, making)
        self.told_of([RB, ("end", "r", 0)], [0], False, making)
        self.told_of([W1, RB, ("end", "r", 3)], [1, 0], True, making)
        self.told_of([W1, RB, ("end", "r", 3)], [0, 1], False, making)

    def test_one_thing_otherwise(self):
        events = [W1, RB, WE, R0, SB, S1, W0, RB, WE, R0]
        order = [1, 0, 2, 3, 4]
        self.told_of(events, order, True)
        for place in range(5):
            self.told_of(events, order[:place] + order[place + 1:], False)
            for number in range(5):
                self.told_of(events, order[:place] + [number] + order[place:], False)
            for thing in (-1, 5, 99, None, True, False, "0", "1", 1.0, (1,), [1], {}, "", -5):
                self.told_of(events, order[:place] + [thing] + order[place + 1:], False)
                self.told_of(events, order[:place] + [thing] + order[place:], False)
            for other in range(place):
                changed = list(order)
                changed[place], changed[other] = order[other], order[place]
                self.told_of(events, changed, False)

    def test_true_and_false_are_no_numbers(self):
        self.told_of([RB, R0], [False], False)
        self.told_of([RB, SB], [True, 0], False)
        self.told_of([RB, SB], [1, False], False)
        self.told_of([RB], [0.0], False)

    def test_other_things_than_lists(self):
        for thing in ((0,), None, 0, True, False, "0", "", {0: True}, {0}, {}, range(1), iter([0]), b"\0"):
            self.told_of([RB, R0], thing, False)

    def test_things_nested_thousands_deep(self):
        deep = ()
        for _ in range(100000):
            deep = (deep,)
        self.assertIs(bears_out(watched("whole"), [RB, R0], [deep]), False)
        self.assertIs(bears_out(watched("whole"), [RB, R0], deep), False)

    def test_arguments_by_their_names(self):
        self.assertIs(bears_out(making=watched("whole"), events=[RB, R0], order=[0]), True)

    def test_all_orders_of_many_events(self):
        for making, length in ((watched("whole", 2, 1, 1), 6), (watched("whole", 2, 0, 2), 4)):
            for events in all_events(making, length):
                many = len(deeds_in(making, events))
                for order in all_orders(many):
                    asked = plainly_borne_out(making, events, order)
                    self.assertIs(bears_out(making, events, order), asked, (events, order))

    def test_orders_of_longer_events(self):
        chance = random.Random(25)
        making = watched("whole", 2, 0, 3)
        borne_out = 0
        for _ in range(400):
            events = some_events(making, 9, chance)
            for order in all_orders(len(deeds_in(making, events)))[-150:]:
                asked = plainly_borne_out(making, events, order)
                borne_out += asked
                self.assertIs(bears_out(making, events, order), asked, (events, order))
        self.assertGreater(borne_out, 100)


class MomentsTest(unittest.TestCase):
    def told_of(self, events, size=2, begin=0, readers=2):
        """What moments_of tells, the same of all kinds of box as to whether there is an order."""
        told = [moments_of(watched(kind, size, begin, readers), events) for kind in KINDS]
        whole = watched("whole", size, begin, readers)
        for kind, order in zip(KINDS, told):
            self.assertEqual(order is None, not judged(whole, events), (kind, events))
            if order is not None:
                self.assertIs(type(order), list)
                self.assertEqual([type(number) for number in order], [int] * len(order))
                self.assertIs(bears_out(watched(kind, size, begin, readers), events, order), True, (events, order))
                if len(events) <= 60:
                    self.assertTrue(plainly_borne_out(whole, events, order), (events, order))
        return told[0]

    def test_no_events(self):
        self.assertEqual(self.told_of([]), [])

    def test_where_there_is_but_one(self):
        self.assertEqual(self.told_of([RB, R0]), [0])
        self.assertEqual(self.told_of([W1, WE]), [0])
        self.assertEqual(self.told_of([W1, WE, RB, R1]), [0, 1])
        self.assertEqual(self.told_of([W1, RB, R1]), [0, 1])
        self.assertEqual(self.told_of([RB, W1, WE, R0]), [0, 1])
        self.assertEqual(self.told_of([RB, W1, WE, R1]), [1, 0])
        self.assertEqual(self.told_of([W1, RB, SB, R1, S0, WE]), [2, 0, 1])

    def test_where_there_is_none(self):
        for events in ([RB, R1], [W1, WE, RB, R0], [W1, RB, R1, RB, R0], [W1, RB, R1, SB, WE, S0], [RB, R1, W1, WE]):
            self.assertIsNone(self.told_of(events), events)

    def test_another_begin_and_size(self):
        self.assertEqual(self.told_of([RB, ("end", "r", 9)], 10, 9, 3), [0])
        self.assertIsNone(self.told_of([RB, R0], 10, 9, 3))

    def test_what_did_not_end(self):
        self.assertIn(self.told_of([RB]), ([], [0]))
        self.assertIn(self.told_of([W1]), ([], [0]))
        self.assertIn(self.told_of([W1, RB, R0]), ([1], [1, 0]))

    def test_against_all_orders(self):
        for size, begin, readers, length in ((2, 1, 1, 7), (2, 0, 2, 5)):
            making = watched("whole", size, begin, readers)
            for events in all_events(making, length):
                told = self.told_of(events, size, begin, readers)
                orders = all_orders(len(deeds_in(making, events)))
                borne_out = any(plainly_borne_out(making, events, order) for order in orders)
                self.assertEqual(told is not None, borne_out, events)

    def test_longer_ones_against_all_orders(self):
        chance = random.Random(26)
        making = watched("whole", 2, 0, 3)
        orders = {many: all_orders(many) for many in range(7)}
        seen = set()
        for _ in range(120):
            events = self.likely_events(making, 9, chance)
            told = self.told_of(events, 2, 0, 3)
            many = len(deeds_in(making, events))
            borne_out = any(plainly_borne_out(making, events, order) for order in orders[many])
            self.assertEqual(told is not None, borne_out, events)
            seen.add(borne_out)
        self.assertEqual(seen, {True, False})

    def likely_events(self, making, length, chance):
        """Events that are kept, but perhaps for the last three."""
        events = self.kept_events(making, length - 3, chance)
        for _ in range(3):
            events.append(chance.choice(events_now(making, events)))
        return events

    def kept_events(self, making, length, chance):
        """Events of a whole box whose worth and readings come about at moments."""
        events, worth, coming, told = [], making[2], None, {}
        while len(events) < length:
            name = chance.choice(making[4])[0]
            if name == "w" and coming is None:
                coming = [chance.randrange(making[1]), False]
                events.append(("begin", "w", coming[0]))
            elif name == "w" and not coming[1]:
                coming[1], worth = True, coming[0]
            elif name == "w":
                coming = None
                events.append(("end", "w"))
            elif name not in told:
                told[name] = None
                events.append(("begin", name))
            elif told[name] is None:
                told[name] = worth
            else:
                events.append(("end", name, told.pop(name)))
        return events

    def test_more_events_than_all_orders_could_be_tried_of(self):
        chance = random.Random(27)
        for size, readers, length in ((2, 1, 3000), (3, 2, 1000), (2, 3, 60), (10, 3, 3000)):
            events = self.kept_events(watched("whole", size, 0, readers), length, chance)
            self.assertIsNotNone(self.told_of(events, size, 0, readers))

    def test_many_events_of_which_a_late_one_is_not_kept(self):
        events = [W1, RB, R1, WE, W0, SB, S0, RB, R0, WE] * 50
        self.assertIsNotNone(self.told_of(events))
        self.assertIsNone(self.told_of(events + [RB, R1]))
        self.assertIsNone(self.told_of(events + [RB, R1] + events))
        self.assertIsNone(self.told_of(events + [W1, RB, R1, SB, S0]))

    def test_a_reading_beside_many_writings(self):
        events = [RB] + [W1, WE, W0, WE] * 30
        self.assertIsNotNone(self.told_of(events + [R1]))
        self.assertIsNotNone(self.told_of(events + [R0]))
        self.assertIsNone(self.told_of([RB] + [W0, WE] * 30 + [R1]))

    def test_a_very_long_one(self):
        making = watched("whole", 2, 0, 1)
        order = moments_of(making, [W1, WE, RB, R1, W0, WE, RB, R0] * 5000)
        self.assertEqual(order, list(range(20000)))

    def test_arguments_by_their_names(self):
        self.assertEqual(moments_of(making=watched("whole"), events=[RB, R0]), [0])

    def test_the_order_is_the_askers_own(self):
        making, events = watched("whole", 2, 0, 2), [W1, RB, R1, SB, S1, WE]
        first = moments_of(making, events)
        kept = list(first)
        first.append(99)
        first.reverse()
        self.assertEqual(moments_of(making, events), kept)
        empty = moments_of(making, [])
        empty.append(1)
        self.assertEqual(moments_of(making, []), [])


class HandedInTest(unittest.TestCase):
    def test_what_is_handed_in_stays_as_it_was(self):
        making = watched("whole", 2, 0, 2)
        for events in ([W1, RB, R1, SB, S1, WE], [W1, RB, R1, SB, S0], [RB, RB], [None]):
            for order in ([0, 1, 2], [2, 1, 0], [[0], 1, "2"]):
                before = copy.deepcopy((events, order))
                for ask in (lambda: bears_out(making, events, order), lambda: moments_of(making, events)):
                    try:
                        ask()
                    except NoEvents:
                        pass
                    self.assertEqual((events, order), before)

    def test_events_are_refused(self):
        wrong = [
            (None, 0), ((), 0), ("", 0), ({}, 0), ([None], 0), ([RB, RB], 1), ([RB, R0, R0], 2), ([WE], 0),
            ([RB, ("end", "r", 2)], 1), ([RB, ("end", "r", True)], 1), ([W1, ["end", "w"]], 1), ([("begin", "x")], 0),
            ([W1, ("end", "w", 1)], 1), ([RB, R1, None], 2), ([W1, RB, R1, SB, S0, SB, SB], 6), ([("begin", "w")], 0),
        ]
        for events, at in wrong:
            for kind in KINDS:
                making = watched(kind, 2, 0, 2)
                asks = [lambda: moments_of(making, events)]
                for order in ([], [0], [0, 1], None, (), "none", [[0]], [True]):
                    asks.append(lambda order=order: bears_out(making, events, order))
                for ask in asks:
                    with self.subTest(events=events, kind=kind):
                        with self.assertRaises(NoEvents) as taken:
                            ask()
                        self.assertIs(type(taken.exception), NoEvents)
                        self.assertEqual((type(taken.exception.at), taken.exception.at), (int, at))


if __name__ == "__main__":
    unittest.main()
