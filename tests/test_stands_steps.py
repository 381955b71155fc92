"""Points 12 and 14: which steps there are, and what they do where nothing breaks."""

import copy
import unittest

from programs import made, passed_on
from strongboxes.claims import claim_reads, claim_told, claim_writes, claim_written
from strongboxes.stands import first_stand, stepped, steps_of


class StepsTest(unittest.TestCase):
    def after(self, making, *steps):
        """The stand behind steps of a text each, `w 1`, that break nothing."""
        stand = first_stand(making)
        for step in steps:
            stand = self.taken(making, stand, step)[0]
        return stand

    def taken(self, making, stand, text):
        hand, pick = text.split(" ")
        told = stepped(making, stand, (hand, int(pick)))
        self.assertIs(type(told), tuple)
        self.assertEqual(len(told), 3)
        self.assertIsNone(told[1], (making, stand, text))
        self.assertIs(type(told[2]), list)
        return told

    def steps(self, making, stand):
        steps = steps_of(making, stand)
        self.assertIs(type(steps), list)
        return ", ".join(f"{hand} {pick}" for hand, pick in steps)


class WhichTest(StepsTest):
    def test_idle_hands(self):
        for size in range(2, 11):
            making = passed_on("steady", "steady", size, 3)
            asked = [("w", pick) for pick in range(size)] + [("r", 0), ("s", 0), ("t", 0)]
            self.assertEqual(steps_of(making, first_stand(making)), asked)

    def test_the_order_is_that_of_the_hands(self):
        making = made("makes safe 2 0, box b safe 2 0 a, hand z 9, hand m 9, tell 0, hand a 9, tell 0")
        self.assertEqual(self.steps(making, first_stand(making)), "z 0, z 1, m 0, a 0")

    def test_a_put_has_one_at_each_half(self):
        for kind in ("safe", "steady", "whole"):
            making = passed_on("safe", kind, 3)
            self.assertEqual(self.steps(making, self.after(making, "w 2")), "w 0, r 0")
        self.assertEqual(self.steps(making, self.after(making, "w 2", "w 0")), "w 0, w 1, w 2, r 0")
        making = passed_on("safe", "steady", 3)
        self.assertEqual(self.steps(making, self.after(making, "w 2", "w 0")), "w 0, r 0")

    def test_a_get_has_one_for_each_worth_that_it_may_get(self):
        making = passed_on("safe", "steady", 3)
        self.assertEqual(self.steps(making, self.after(making, "r 0")), "w 0, w 1, w 2, r 0")
        self.assertEqual(self.steps(making, self.after(making, "r 0", "r 0")), "w 0, w 1, w 2, r 0")
        beside = self.after(making, "w 2", "w 0", "r 0", "r 0")
        self.assertEqual(self.steps(making, beside), "w 0, r 0, r 2")
        making = passed_on("safe", "safe", 3)
        beside = self.after(making, "w 2", "w 0", "r 0", "r 0")
        self.assertEqual(self.steps(making, beside), "w 0, r 0, r 1, r 2")

    def test_a_get_of_a_worth_that_is_not_0(self):
        making = passed_on("safe", "steady", 3, begin=2)
        self.assertEqual(self.steps(making, self.after(making, "r 0", "r 0")), "w 0, w 1, w 2, r 2")

    def test_a_get_that_may_get_nothing_has_none(self):
        making = passed_on("safe", "steady", 2, 2)
        hands = ((-1, None, 0, 0, ()), (0, (), 0, 1, (0,)), (-1, None, 0, 0, (0,)))
        stand = (hands, ((0, -1),), (0, -1, ((0,), None)))
        self.assertEqual(self.steps(making, stand), "w 0, w 1, s 0")

    def test_the_list_is_the_askers_own(self):
        making = passed_on("safe", "steady", 2)
        stand = first_stand(making)
        steps = steps_of(making, stand)
        steps.append("more")
        self.assertEqual(self.steps(making, stand), "w 0, w 1, r 0")
        self.assertEqual(self.steps(making=making, stand=stand), "w 0, w 1, r 0")


class HalvesTest(StepsTest):
    def boxed(self, making, *steps):
        """The one box, and the halves of the hands, behind steps."""
        stand = self.after(making, *steps)
        return stand[1][0], tuple(hand[1] for hand in stand[0])

    def test_a_put_of_a_weak_box(self):
        for kind in ("safe", "steady"):
            making = passed_on("safe", kind, 3)
            self.assertEqual(self.boxed(making, "w 2"), ((0, -1), (None, None)))
            self.assertEqual(self.boxed(making, "w 2", "w 0"), ((0, 2), ((), None)))
            self.assertEqual(self.boxed(making, "w 2", "w 0", "w 0"), ((2, -1), (None, None)))

    def test_a_put_of_a_whole_box(self):
        making = passed_on("safe", "whole", 3)
        self.assertEqual(self.boxed(making, "w 2"), ((0, -1), (None, None)))
        self.assertEqual(self.boxed(making, "w 2", "w 0"), ((2, -1), (None, None)))

    def test_a_get_ahead_of_a_put(self):
        for kind, may in (("safe", (0, 1, 2)), ("steady", (0, 2))):
            making = passed_on("safe", kind, 3)
            self.assertEqual(self.boxed(making, "r 0", "r 0"), ((0, -1), (None, (0,))))
            self.assertEqual(self.boxed(making, "r 0", "r 0", "w 2"), ((0, -1), (None, (0,))))
            self.assertEqual(self.boxed(making, "r 0", "r 0", "w 2", "w 0"), ((0, 2), ((), may)))
            self.assertEqual(self.boxed(making, "r 0", "r 0", "w 2", "w 0", "w 0"), ((2, -1), (None, may)))

    def test_a_get_that_begins_beside_a_put(self):
        for kind, may in (("safe", (0, 1, 2)), ("steady", (0, 2))):
            making = passed_on("safe", kind, 3)
            self.assertEqual(self.boxed(making, "w 2", "w 0", "r 0", "r 0"), ((0, 2), ((), may)))
            self.assertEqual(self.boxed(making, "w 2", "w 0", "r 0", "r 0", "w 0"), ((2, -1), (None, may)))

    def test_a_get_behind_a_put(self):
        for kind in ("safe", "steady"):
            making = passed_on("safe", kind, 3)
            self.assertEqual(self.boxed(making, "w 2", "w 0", "w 0", "r 0", "r 0"), ((2, -1), (None, (2,))))

    def test_a_get_beside_several_puts(self):
        ahead = ["r 0", "r 0", "w 2", "w 0", "w 0", "w 1", "w 0"]
        self.assertEqual(self.boxed(passed_on("safe", "steady", 4), *ahead), ((2, 1), ((), (0, 1, 2))))
        self.assertEqual(self.boxed(passed_on("safe", "safe", 4), *ahead), ((2, 1), ((), (0, 1, 2, 3))))

    def test_a_put_of_the_worth_that_is_there(self):
        for kind, may in (("safe", (0, 1, 2)), ("steady", (0,))):
            making = passed_on("safe", kind, 3)
            self.assertEqual(self.boxed(making, "w 0", "w 0", "r 0", "r 0"), ((0, 0), ((), may)))
            self.assertEqual(self.boxed(making, "r 0", "r 0", "w 0", "w 0"), ((0, 0), ((), may)))

    def test_two_readers(self):
        making = passed_on("safe", "steady", 3, 2)
        stand = self.after(making, "r 0", "r 0", "w 1", "w 0", "s 0", "s 0")
        self.assertEqual([hand[1] for hand in stand[0]], [(), (0, 1), (0, 1)])
        stand = self.after(making, "r 0", "r 0", "w 1", "w 0", "w 0", "s 0", "s 0")
        self.assertEqual([hand[1] for hand in stand[0]], [None, (0, 1), (1,)])
        stand = self.after(making, "r 0", "r 0", "s 0", "w 1", "w 0")
        self.assertEqual([hand[1] for hand in stand[0]], [(), (0, 1), None])
        stand = self.after(making, "r 0", "r 0", "s 0", "s 0", "w 1", "w 0", "r 1")
        self.assertEqual([hand[1] for hand in stand[0]], [(), None, (0, 1)])

    def test_a_half_of_no_worths(self):
        for kind, may in (("safe", (0, 1, 2)), ("steady", (1,))):
            making = passed_on("safe", kind, 3)
            stand = (((0, None, 1, 0, ()), (0, (), 0, 1, (0,))), ((0, -1),), (0, 1, ((),)))
            self.assertEqual(self.taken(making, stand, "w 0")[0][0], ((0, (), 1, 1, ()), (0, may, 0, 1, (0,))))

    def test_only_the_gets_of_this_box_are_widened(self):
        making = made(
            "makes safe 2 0, box b steady 2 0 w, box c steady 2 0 w",
            "hand w 9, put c 1, put b 1",
            "hand r 9, get x b, tell 0",
            "hand s 9, get x c, tell 0",
        )
        stand = self.after(making, "r 0", "r 0", "s 0", "s 0", "w 0", "w 0")
        self.assertEqual([hand[1] for hand in stand[0]], [(), (0,), (0, 1)])
        self.assertEqual(stand[1], ((0, -1), (0, 1)))
        stand = self.after(making, "r 0", "r 0", "s 0", "s 0", "w 0", "w 0", "w 0", "w 0")
        self.assertEqual([hand[1] for hand in stand[0]], [(), (0, 1), (0, 1)])
        self.assertEqual(stand[1], ((0, 1), (1, -1)))

    def test_a_get_is_of_the_boxs_worths_not_of_the_made_boxs(self):
        making = made("makes safe 2 0, box b safe 5 3 w", "hand w 9, put b 4", "hand r 9, get x b, tell 0")
        stand = self.after(making, "w 0", "w 0", "r 0", "r 0")
        self.assertEqual(stand[0][1][1], (0, 1, 2, 3, 4))
        self.assertEqual(stand[1], ((3, 4),))

    def test_a_reader_puts_and_the_writer_gets(self):
        making = made(
            "makes safe 2 0, box b steady 2 0 r",
            "hand w 9, get x b, done",
            "hand r 9, put b 1, tell 0",
        )
        stand = self.after(making, "w 0", "w 0", "r 0", "r 0")
        self.assertEqual(stand[0], ((0, (0, 1), 0, 1, (0,)), (0, (), 0, 1, ())))
        self.assertEqual(self.after(making, "w 0", "w 0", "r 0", "r 0", "w 1")[0][0], (-1, None, 0, 0, (1,)))

    def test_a_hand_gets_what_it_writes_itself(self):
        making = made("makes safe 2 0, box b safe 3 0 w", "hand w 9, put b + v 1, get x b", "hand r 9, tell 0")
        stand = self.after(making, "w 1", "w 0", "w 0", "w 0")
        self.assertEqual(stand[0][0], (1, (2,), 1, 3, (0,)))
        self.assertEqual(self.after(making, "w 1", "w 0", "w 0", "w 0", "w 2")[0][0], (-1, None, 0, 0, (2,)))


class HandsTest(StepsTest):
    def hand(self, making, number, *steps):
        return self.after(making, *steps)[0][number]

    def test_the_worth_and_count_of_a_writer(self):
        making = passed_on("steady", "steady", 3)
        self.assertEqual(self.hand(making, 0, "w 2"), (0, None, 2, 0, ()))
        self.assertEqual(self.hand(making, 0, "w 2", "w 0"), (0, (), 2, 1, ()))
        self.assertEqual(self.hand(making, 0, "w 2", "w 0", "w 0"), (-1, None, 0, 0, ()))

    def test_the_count_of_a_reader(self):
        making = made(
            "makes safe 2 0, box b steady 2 0 w, box c whole 2 0 w, box d safe 2 1 r",
            "hand w 0",
            "hand r 9, get x b, get y c, put d 1, get z d, tell 0",
        )
        self.assertEqual(self.hand(making, 1, "r 0"), (0, None, 0, 0, (0, 0, 0)))
        self.assertEqual(self.hand(making, 1, "r 0", "r 0"), (0, (0,), 0, 1, (0, 0, 0)))
        ahead = ["r 0"] * 3
        self.assertEqual(self.hand(making, 1, *ahead), (1, None, 0, 2, (0, 0, 0)))
        self.assertEqual(self.hand(making, 1, *ahead, "r 0"), (2, None, 0, 3, (0, 0, 0)))
        self.assertEqual(self.hand(making, 1, *ahead, "r 0", "r 0"), (2, (), 0, 4, (0, 0, 0)))
        self.assertEqual(self.hand(making, 1, *ahead, "r 0", "r 0", "r 0"), (3, None, 0, 5, (0, 0, 0)))
        self.assertEqual(self.hand(making, 1, *ahead, "r 0", "r 0", "r 0", "r 0"), (3, (1,), 0, 6, (0, 0, 0)))
        self.assertEqual(self.hand(making, 1, *ahead, "r 0", "r 0", "r 0", "r 0", "r 1"), (-1, None, 0, 0, (0, 0, 1)))

    def test_the_number_got_stands_in_the_variable(self):
        for kind in ("safe", "steady"):
            making = passed_on("safe", kind, 3, 2)
            beside = ["w 2", "w 0", "r 0", "r 0"]
            for pick in (0, 2):
                self.assertEqual(self.hand(making, 1, *beside, f"r {pick}"), (-1, None, 0, 0, (pick,)))
            self.assertEqual(self.hand(making, 2, *beside, "r 2"), (-1, None, 0, 0, (0,)))
        making = passed_on("safe", "whole", 3)
        self.assertEqual(self.hand(making, 1, "w 2", "w 0", "r 0", "r 0"), (-1, None, 0, 0, (2,)))

    def test_the_place_of_a_variable_is_by_its_name(self):
        making = made("makes safe 2 0, box d whole 8 7 w", "hand w 9, get m d, get c d, put d z", "hand r 9, tell 0")
        self.assertEqual(self.hand(making, 0, "w 0"), (0, None, 0, 0, (0, 0, 0)))
        self.assertEqual(self.hand(making, 0, "w 0", "w 0"), (1, None, 0, 1, (0, 7, 0)))
        self.assertEqual(self.hand(making, 0, "w 0", "w 0", "w 0"), (2, None, 0, 2, (7, 7, 0)))

    def test_v_is_the_worth_to_be_written(self):
        making = made(
            "makes safe 4 0, box b whole 10 0 w, box c whole 10 0 w",
            "hand w 9, let x + v v, put b + x v, put c v",
            "hand r 9, tell 0",
        )
        for worth in range(4):
            stand = self.after(making, f"w {worth}", "w 0", "w 0")
            self.assertEqual(stand[1], ((3 * worth, -1), (worth, -1)))

    def test_the_number_of_a_put_is_that_at_its_first_step(self):
        making = made("makes safe 2 0, box b steady 3 0 w", "hand w 9, let x 2, put b x, let x 0", "hand r 9, tell 0")
        self.assertEqual(self.after(making, "w 1", "w 0")[1], ((0, 2),))
        self.assertEqual(self.after(making, "w 1", "w 0", "w 0")[1], ((2, -1),))


class WithoutAStepTest(StepsTest):
    def writer(self, rows, worth=1, numbers=None, boxes="box b whole 10 0 w"):
        """What a begin tells of the hand of a writer of such rows."""
        making = made("makes safe 3 0", boxes, "hand w 9", rows, "hand r 9, tell 0")
        stand = first_stand(making)
        if numbers is not None:
            stand = ((stand[0][0][:4] + (numbers,),) + stand[0][1:],) + stand[1:]
        return self.taken(making, stand, f"w {worth}")[0][0][0]

    def test_let(self):
        self.assertEqual(self.writer("let x 3, let y + x v, put b 0"), (2, None, 1, 0, (3, 4)))
        self.assertEqual(self.writer("let x + x 1, let x + x x, put b 0", numbers=(2,)), (2, None, 1, 0, (6,)))

    def test_jump(self):
        self.assertEqual(self.writer("jump 2, put b 0, put b 1"), (2, None, 1, 0, ()))
        self.assertEqual(self.writer("jump 3, put b 0, jump 1, jump 2"), (1, None, 1, 0, ()))

    def test_unless(self):
        self.assertEqual(self.writer("unless 2 v, put b 0, put b 1", 0), (2, None, 0, 0, ()))
        for worth in (1, 2):
            self.assertEqual(self.writer("unless 2 v, put b 0, put b 1", worth), (1, None, worth, 0, ()))
        self.assertEqual(self.writer("unless 1 0, put b 0"), (1, None, 1, 0, ()))
        self.assertEqual(self.writer("unless 1 1, put b 0"), (1, None, 1, 0, ()))

    def test_a_target_that_is_how_many_rows(self):
        self.assertEqual(self.writer("jump 2, put b 0"), (-1, None, 0, 0, ()))
        self.assertEqual(self.writer("unless 2 0, put b 0"), (-1, None, 0, 0, ()))
        self.assertEqual(self.writer("unless 2 1, put b 0"), (1, None, 1, 0, ()))

    def test_done_and_behind_the_last_row(self):
        self.assertEqual(self.writer("let x 5, done, put b 0"), (-1, None, 0, 0, (5,)))
        self.assertEqual(self.writer("let x 5"), (-1, None, 0, 0, (5,)))

    def test_loops_that_end(self):
        self.assertEqual(self.writer("unless 3 < x 7, let x + x 1, jump 0, put b 0"), (3, None, 1, 0, (7,)))
        self.assertEqual(self.writer("let x + x 1, unless 0 = x 9, put b 0"), (2, None, 1, 0, (9,)))

    def test_hundreds_of_rows_that_come_again_with_other_numbers(self):
        rows = ("let x + x 1, unless 0 = x 9, let x 0, let y + y 1, unless 0 = y 9, let y 0, let z + z 1, "
                "unless 0 = z 9, put b 0")
        self.assertEqual(self.writer(rows), (8, None, 1, 0, (0, 0, 9)))

    def test_behind_a_put_and_a_get_as_behind_a_begin(self):
        making = made(
            "makes safe 3 0, box b steady 3 1 w",
            "hand w 9, get x b, unless 4 = x 1, let y 2, put b 0, let y 4, put b 2, let x 0, jump 9, let x 7",
            "hand r 9, tell 0",
        )
        self.assertEqual(self.after(making, "w 2", "w 0", "w 1")[0][0], (3, None, 2, 2, (1, 2)))
        later = self.after(making, "w 2", "w 0", "w 1", "w 0", "w 0")
        self.assertEqual(later[0][0], (5, None, 2, 4, (1, 4)))
        done = self.after(making, "w 2", "w 0", "w 1", "w 0", "w 0", "w 0", "w 0")
        self.assertEqual(done[0][0], (-1, None, 0, 0, (0, 4)))

    def test_variables_stay_from_deed_to_deed(self):
        making = made("makes safe 2 0, hand w 0, let x + x 1, hand r 0, unless 3 n, let n 0, tell 0, let n 1, tell 0")
        stand = first_stand(making)
        for count in range(1, 12):
            stand = self.taken(making, stand, "w 0")[0]
            self.assertEqual(stand[0][0], (-1, None, 0, 0, (min(count, 9),)))
        for count in range(1, 5):
            stand = self.taken(making, stand, "r 0")[0]
            self.assertEqual(stand[0][1], (-1, None, 0, 0, (count % 2,)))


class EventsTest(StepsTest):
    def test_a_begin_and_an_end(self):
        making = passed_on("steady", "steady", 3)
        stand = first_stand(making)
        for step, events in (
            ("w 2", [("begin", "w", 2)]), ("w 0", []), ("r 0", [("begin", "r")]), ("r 0", []),
            ("r 2", [("end", "r", 2)]), ("w 0", [("end", "w")]), ("r 0", [("begin", "r")]), ("r 0", []),
            ("r 2", [("end", "r", 2)]),
        ):
            told = self.taken(making, stand, step)
            self.assertEqual(told[2], events, step)
            stand = told[0]

    def test_a_deed_that_ends_at_once(self):
        making = made("makes steady 3 1, hand w 0, done, hand r 0, let x 1, tell x, hand s 0, jump 1, tell 1")
        stand = first_stand(making)
        told = self.taken(making, stand, "w 2")
        self.assertEqual(told[2], [("begin", "w", 2), ("end", "w")])
        self.assertEqual(told[0][2], (2, -1, (None, None)))
        told = self.taken(making, stand, "r 0")
        self.assertEqual(told[2], [("begin", "r"), ("end", "r", 1)])
        self.assertEqual(told[0], (((-1, None, 0, 0, ()), (-1, None, 0, 0, (1,)), (-1, None, 0, 0, ())), (), stand[2]))
        self.assertEqual(self.taken(making, stand, "s 0"), (stand, None, [("begin", "s"), ("end", "s", 1)]))

    def test_the_claim_goes_with_the_deeds(self):
        for kind in ("safe", "steady", "whole"):
            making = passed_on(kind, "whole", 3, 2)
            stand = first_stand(making)
            claim = stand[2]
            for step, lead in (
                ("r 0", lambda one: claim_reads(making, one, 0)),
                ("w 2", lambda one: claim_writes(making, one, 2)),
                ("w 0", lambda one: claim_written(making, one)),
                ("s 0", lambda one: claim_reads(making, one, 1)),
                ("r 0", lambda one: claim_told(making, one, 0, 2)),
                ("w 1", lambda one: claim_writes(making, one, 1)),
                ("r 0", lambda one: claim_reads(making, one, 0)),
                ("w 0", lambda one: claim_written(making, one)),
                ("s 0", lambda one: claim_told(making, one, 1, 1)),
            ):
                claim = lead(claim)
                stand = self.taken(making, stand, step)[0]
                self.assertEqual(stand[2], claim, (kind, step))

    def test_the_claim_stays_where_no_deed_begins_or_ends(self):
        making = passed_on("steady", "steady", 3)
        stand = self.after(making, "w 2", "r 0")
        for step in ("w 0", "r 0"):
            self.assertEqual(self.taken(making, stand, step)[0][2], (0, 2, ((0, 2),)))

    def test_claims_of_less_and_of_nothing(self):
        making = passed_on("steady", "whole", 2)
        idle, reads = (-1, None, 0, 0, ()), (0, None, 0, 0, (0,))
        stand = ((idle, reads), ((0, -1),), (0, -1, ((),)))
        self.assertEqual(self.taken(making, stand, "w 1")[0][2], (0, 1, ((1,),)))
        writes = (0, None, 1, 0, ())
        stand = ((writes, reads), ((0, -1),), (1, 0, ((),)))
        self.assertEqual(self.taken(making, stand, "w 0")[0][2], (0, -1, ((),)))
        making = passed_on("whole", "whole", 2)
        self.assertEqual(self.taken(making, ((idle, reads), ((0, -1),), ()), "w 1")[0][2], ())
        self.assertEqual(self.taken(making, ((writes, reads), ((0, -1),), ()), "w 0")[0][2], ())
        # A claim that is not closed: where the writing had its moment in no case, none is left.
        stand = ((writes, reads), ((0, -1),), ((0, 1, (0,)),))
        self.assertEqual(self.taken(making, stand, "w 0")[0][2], ())
        stand = ((idle, reads), ((0, -1),), ((0, -1, (-2,)),))
        closed = ((0, 1, (-2,)), (0, 1, (0,)), (1, -2, (-2,)), (1, -2, (0,)), (1, -2, (1,)))
        self.assertEqual(self.taken(making, stand, "w 1")[0][2], closed)


class AskersOwnTest(StepsTest):
    def test_what_is_handed_in_stays(self):
        making = passed_on("whole", "safe", 3, 2)
        stand = self.after(making, "w 2", "w 0", "r 0", "r 0", "s 0")
        before = copy.deepcopy((making, stand))
        for step in steps_of(making, stand):
            stepped(making, stand, step)
        self.assertEqual((making, stand), before)

    def test_the_events_are_the_askers_own(self):
        making = passed_on("safe", "safe")
        stand = first_stand(making)
        for step in (("w", 1), ("r", 0)):
            told = stepped(making, stand, step)
            asked = copy.deepcopy(told)
            told[2].append("more")
            self.assertEqual(stepped(making, stand, step), asked)

    def test_by_their_names(self):
        making = passed_on("safe", "safe")
        stand = first_stand(making)
        self.assertEqual(stepped(step=("w", 1), stand=stand, making=making), stepped(making, stand, ("w", 1)))
        self.assertEqual(steps_of(stand=stand, making=making), [("w", 0), ("w", 1), ("r", 0)])


if __name__ == "__main__":
    unittest.main()
