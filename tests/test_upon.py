"""Point 19: one making put upon the other."""

import copy
import random
import unittest

from plain_hands import near_making
from programs import STEADY_OF_BITS, STEADY_OF_SAFE, made, passed_on, with_kind
from strongboxes.errors import (
    NoEvents, NoLine, NoMaking, NoPaper, NoStep, NoText, NoUpon, StrongError, TooMany,
)
from strongboxes.makings import check_making
from strongboxes.texts import shown_making
from strongboxes.upon import put_upon


class UponTest(unittest.TestCase):
    def told(self, outer, name, inner, *rows):
        making = put_upon(outer, name, inner)
        self.assertEqual(shown_making(making).split("\n"), [row.strip() for part in rows for row in part.split(",")])
        check_making(making)
        return making

    def refused(self, outer, name, inner):
        with self.assertRaises(NoUpon) as taken:
            put_upon(outer, name, inner)
        self.assertIs(type(taken.exception), NoUpon)


class RowsTest(UponTest):
    def test_written_out(self):
        self.told(
            STEADY_OF_BITS, "b", STEADY_OF_SAFE,
            "makes steady 3 0, box a steady 2 1 w, box d safe 2 0 w, box c steady 2 0 w",
            "hand w 12, unless 3 = v 0, put a 1, done, unless 10 = v 1",
            "let f 1, unless 8 not = f e, put d f, let e f",
            "put a 0, done, put c 1",
            "let f 0, unless 15 not = f e, put d f, let e f",
            "put a 0",
            "hand r 8, get x a, unless 3 x, tell 0",
            "get g d, let x g, jump 6",
            "unless 8 x, tell 1, tell 2",
        )

    def test_a_put_in_each_place(self):
        inner = made("makes safe 2 0, box q safe 2 0 w, hand w 3, put q v, hand r 3, get x q, tell x")
        outer = "makes safe 2 0, box b safe 2 0 w, hand w 5", "hand r 5, tell 0"
        for rows, asked in (
            ("put b v", "let c v, put a c"),
            ("put b v, done", "let c v, put a c, done"),
            ("jump 1, put b 1", "jump 1, let c 1, put a c"),
            ("jump 2, put b 1", "jump 3, let c 1, put a c"),
            ("put b v, put b 0, put b 1", "let c v, put a c, let c 0, put a c, let c 1, put a c"),
            ("unless 3 v, put b 1, jump 0, put b 0, jump 5",
             "unless 4 v, let c 1, put a c, jump 0, let c 0, put a c, jump 7"),
            ("jump 0, put b + v 1, unless 2 v, unless 1 v", "jump 0, let c + v 1, put a c, unless 3 v, unless 1 v"),
        ):
            self.told(made(outer[0], rows, outer[1]), "b", inner,
                      "makes safe 2 0, box a safe 2 0 w, hand w 15", asked, "hand r 5, tell 0")

    def test_a_get_in_each_place(self):
        inner = made("makes safe 2 0, box q safe 2 0 w, hand w 3, hand r 4, get x q, tell x")
        outer = "makes safe 2 0, box b safe 2 0 w, hand w 5, hand r 5"
        for rows, asked in (
            ("get x b, tell x", "get d a, let x d, jump 3, tell x"),
            ("get x b, get y b, tell x", "get d a, let x d, jump 3, get d a, let y d, jump 6, tell x"),
            ("jump 1, get x b", "jump 1, get d a, let x d, jump 4"),
            ("jump 2, get x b", "jump 4, get d a, let x d, jump 4"),
            ("unless 3 x, get x b, jump 0, tell 1", "unless 5 x, get d a, let x d, jump 4, jump 0, tell 1"),
        ):
            self.told(made(outer, rows), "b", inner,
                      "makes safe 2 0, box a safe 2 0 w, hand w 5, hand r 20", asked)

    def test_done_and_tell_become_jumps_behind(self):
        inner = made(
            "makes safe 2 0, box q safe 2 0 w",
            "hand w 1, unless 2 v, done, put q v, done",
            "hand r 1, unless 2 y, tell 1, get y q, unless 0 y, tell + y 0, tell y",
        )
        outer = made(
            "makes safe 2 0, box b safe 2 0 w",
            "hand w 5, put b 1, put b v, jump 0",
            "hand r 5, let x 1, get x b, get z b, tell x",
        )
        self.told(
            outer, "b", inner,
            "makes safe 2 0, box a safe 2 0 w",
            "hand w 5",
            "let c 1, unless 3 c, jump 5, put a c, jump 5",
            "let c v, unless 8 c, jump 10, put a c, jump 10",
            "jump 0",
            "hand r 5, let x 1",
            "unless 4 d, let x 1, jump 10, get d a, unless 1 d, let x + d 0, jump 10, let x d, jump 10",
            "unless 13 d, let z 1, jump 19, get d a, unless 10 d, let z + d 0, jump 19, let z d, jump 19",
            "tell x",
        )

    def test_targets_that_are_how_many_rows(self):
        inner = made(
            "makes safe 2 0, box q safe 2 0 w",
            "hand w 1, unless 2 v, put q v",
            "hand r 1, unless 3 y, jump 3, tell 1",
        )
        outer = made(
            "makes safe 2 0, box b safe 2 0 w",
            "hand w 5, unless 2 v, put b v",
            "hand r 5, jump 3, get x b, unless 3 x",
        )
        self.told(
            outer, "b", inner,
            "makes safe 2 0, box a safe 2 0 w",
            "hand w 5, unless 4 v, let c v, unless 4 c, put a c",
            "hand r 5, jump 6, unless 5 d, jump 5, let x 1, jump 5, unless 6 x",
        )

    def test_inner_hands_without_rows(self):
        inner = made("makes safe 2 0, hand w 0, hand r 0")
        outer = made("makes safe 2 0, box b safe 2 0 w, hand w 5, put b v, jump 1, hand r 5, get x b, jump 1, tell x")
        self.told(outer, "b", inner, "makes safe 2 0, hand w 5, let a v, jump 1, hand r 5, jump 0, tell x")

    def test_one_hand_puts_and_gets(self):
        inner = made(
            "makes safe 2 0, box q safe 2 0 w, box p safe 2 0 r",
            "hand w 2, get x p, put q v",
            "hand r 2, put p 1, get x q, tell x",
            "hand s 3, tell 1",
        )
        outer = made(
            "makes safe 2 0, box b safe 2 0 r",
            "hand w 5, get x b, done",
            "hand r 5, get x b, put b not x, tell x",
        )
        self.told(
            outer, "b", inner,
            "makes safe 2 0, box a safe 2 0 r, box c safe 2 0 w",
            "hand w 15, put c 1, get f a, let x f, jump 4, done",
            "hand r 15, let x 1, jump 2, let d not x, get e c, put a d, tell x",
        )

    def test_other_boxes_rows_and_hands_stay(self):
        inner = made("makes whole 2 0, box z whole 2 0 w, hand w 3, put z v, hand r 3, get z z, tell z")
        outer = made(
            "makes steady 3 1, box b safe 2 0 w, box c steady 4 3 s, box d whole 10 9 w",
            "hand w 5, put b 0, put d 3",
            "hand r 7, get x c, tell 1",
            "hand s 9, get x b, put c x, tell 2",
        )
        self.told(
            outer, "b", inner,
            "makes steady 3 1, box a whole 2 0 w, box c steady 4 3 s, box d whole 10 9 w",
            "hand w 15, let e 0, put a e, put d 3",
            "hand r 7, get x c, tell 1",
            "hand s 27, get f a, let x f, jump 3, put c x, tell 2",
        )


class BoxesTest(UponTest):
    INNER = made(
        "makes safe 2 0, box a safe 2 0 s, box b steady 3 2 w, box c whole 4 1 r, box d safe 5 0 t",
        "hand w 1, hand r 1, tell 0, hand s 1, tell 0, hand t 1, tell 0",
    )

    def told_boxes(self, outer):
        return [(box[0], box[4]) for box in put_upon(outer, "q", self.INNER)[3]]

    def test_who_writes_them(self):
        hands = "hand w 1", "hand r 1", "hand s 1", "hand t 1"
        boxes = "makes safe 2 0, box p safe 2 0 t, box q safe 2 0 s"
        gets = ", get x q"
        for getters, writers in (
            ((), "ssss"),
            ((0,), "ssws"),
            ((1,), "ssrs"),
            ((3,), "ssts"),
            ((0, 3), "tsws"),
            ((1, 2), "ssrs"),
            ((0, 1, 3), "rswt"),
            ((1, 2, 3), "ssrt"),
            ((0, 1, 2), "rsws"),
        ):
            outer = made(boxes, *(hand + gets * (number in getters) for number, hand in enumerate(hands)))
            asked = [("p", "t")] + list(zip("abcd", writers))
            self.assertEqual(self.told_boxes(outer), asked, getters)

    def test_they_stand_in_the_place_of_the_box(self):
        boxes = "makes safe 2 0, box p safe 2 0 w, box q safe 2 0 r, box s whole 7 6 r, hand w 1, hand r 1"
        told = put_upon(made(boxes), "q", made(
            "makes safe 2 0, box x safe 9 8 w, box y whole 3 1 r, hand w 1, hand r 1"))
        self.assertEqual(told[3], (
            ("p", "safe", 2, 0, "w"), ("a", "safe", 9, 8, "r"), ("b", "whole", 3, 1, "r"), ("s", "whole", 7, 6, "r")))
        for name, asked in (("p", "aqs"), ("q", "pas"), ("s", "pqa")):
            kind, size, begin = {"p": ("safe", 2, 0), "q": ("safe", 2, 0), "s": ("whole", 7, 6)}[name]
            inner = made(f"makes {kind} {size} {begin}, box x safe 9 8 w, hand w 1, hand r 1")
            told = put_upon(made(boxes), name, inner)
            self.assertEqual("".join(box[0] for box in told[3]), asked)

    def test_an_inner_making_without_boxes(self):
        boxes = "makes safe 2 0, box p safe 2 0 w, box q safe 2 0 r, hand w 1, hand r 1"
        told = put_upon(made(boxes), "p", made("makes whole 2 0, hand w 1, hand r 1"))
        self.assertEqual(told[3], (("q", "safe", 2, 0, "r"),))


class NamesTest(UponTest):
    def test_those_that_outer_has_are_left_out(self):
        outer = made(
            "makes safe 2 0, box a safe 2 0 w, box e safe 2 0 w",
            "hand w 1, let c v, put a d, hand b 1, get g a, unless 0 h, tell i",
        )
        inner = made("makes safe 2 0, box a safe 2 0 w, box x safe 2 0 w",
                     "hand w 1, let p q, put x v, let z z, hand r 1, get c x, get b a, tell d")
        self.told(
            outer, "a", inner,
            "makes safe 2 0, box b safe 2 0 w, box f safe 2 0 w, box e safe 2 0 w",
            "hand w 1, let c v, let l d, let j k, put f l, let m m",
            "hand b 1, get o f, get n b, let g p, jump 4, unless 0 h, tell i",
        )

    def test_v_has_its_place_among_the_variables(self):
        # The box is a and b is outer's own, so the variables are named from c on.
        outer = passed_on("safe", "safe")
        for names in ("u", "w", "tuxy", "abyz"):
            inner = made("makes safe 2 0, box q safe 2 0 w, hand w 1", *(f"let {name} v" for name in names),
                         "hand r 1, tell 0")
            news = dict(zip(sorted(names + "v"), "cdefg"))
            rows = [("let", news["v"], ("var", "v"))] + [("let", news[name], ("var", news["v"])) for name in names]
            self.assertEqual(put_upon(outer, "b", inner)[4][0][2], tuple(rows))

    def test_v_has_a_name_where_inner_does_not_name_it(self):
        inner = made("makes safe 2 0, box q safe 2 0 w, hand w 1, let z 1, let u 1, hand r 1, get x q, tell x")
        self.told(
            passed_on("safe", "safe"), "b", inner,
            "makes safe 2 0, box a safe 2 0 w, hand w 2, let d v, let e 1, let c 1",
            "hand r 2, get f a, let x f, jump 3, tell x",
        )

    def test_v_has_a_name_where_outer_does_not_put(self):
        outer = made("makes safe 2 0, box b safe 2 0 w, hand w 1, hand r 1, get x b, tell x")
        inner = made("makes safe 2 0, box q safe 2 0 w, hand w 1, hand r 1, get x q, tell x")
        self.told(outer, "b", inner, "makes safe 2 0, box a safe 2 0 w, hand w 1",
                  "hand r 1, get d a, let x d, jump 3, tell x")

    def test_readers_that_no_hand_has_get_no_names(self):
        inner = made("makes safe 2 0, hand w 1, hand r 1, tell x, hand s 1, tell y, hand t 1, tell x")
        outer = made("makes safe 2 0, box b safe 2 0 w, hand w 1, get p b, hand r 1, hand s 1, get q b, hand t 1")
        self.told(outer, "b", inner, "makes safe 2 0, hand w 1, let p c, jump 2, hand r 1",
                  "hand s 1, let q d, jump 2, hand t 1")

    def test_each_reader_has_names_of_its_own(self):
        inner = passed_on("safe", "safe", readers=3)
        told = put_upon(passed_on("safe", "safe", readers=3), "b", inner)
        for hand, name in zip(told[4][1:], "def"):
            self.assertEqual(hand[2][0], ("get", name, "a"))

    def test_past_z(self):
        # Forty variables of inner's writer: v, and p to x are outer's own.
        letters = "abcdefghijklmnopqrstuvwxyz"
        names = [one + other for one in "mn" for other in letters][:39]
        inner = made("makes safe 2 0, hand w 1", *(f"let {name} 0" for name in names), "hand r 1, tell 0")
        outer = made("makes safe 2 0, box b safe 2 0 w, hand w 1, put b x, let ab 1, hand r 1, get y b")
        told = put_upon(outer, "b", inner)
        given = [row[1] for row in told[4][0][2]]
        news = [name for name in letters if name not in "bvxy"]
        news += ["a" + name for name in letters if name != "b"]
        # v is the last of inner's names, so it is given the last of forty.
        self.assertEqual(given, [news[39]] + news[:39] + ["ab"])

    def test_or_and_and_are_left_out(self):
        # Deep expressions name so many variables that the names go past or, zz and and.
        letters = "abcdefghijklmnopqrstuvwxyz"
        singles = [name for name in letters if name not in "bvx"]
        doubles = [one + other for one in letters for other in letters if one + other != "or"]
        triples = [first + one + other for first in "ab" for one in letters for other in letters]
        news = singles + doubles + [name for name in triples if name != "and"]
        names = [first + one + other for first in "mp" for one in letters for other in letters][:59 * 17]
        writer, reader = self.sums(names), self.sums(names[:29 * 17])
        inner = ("safe", 2, 0, (), (("w", 1, writer), ("r", 1, reader)))
        check_making(inner)
        outer = made("makes safe 2 0, box b safe 2 0 w, hand w 1, put b v, hand r 1, get x b")
        told = put_upon(outer, "b", inner)
        # v comes behind all names of inner's writer.
        self.assertEqual(told[4][0][2], (("let", news[59 * 17], ("var", "v")),) + self.sums(news[:59 * 17]))
        self.assertEqual(told[4][1][2], self.sums(news[59 * 17 + 1:59 * 17 + 1 + 29 * 17]))
        self.assertGreater(news[59 * 17 + 29 * 17], "and")

    def sums(self, names):
        """Rows that name each of these, seventeen a row."""
        return tuple(("let", names[place], self.sum_of(names[place + 1:place + 17]))
                     for place in range(0, len(names), 17))

    def sum_of(self, names):
        """A sum of sixteen variables, five deep."""
        parts = [("var", name) for name in names]
        while len(parts) > 1:
            parts = [("+", one, other) for one, other in zip(parts[::2], parts[1::2])]
        return parts[0]

    def test_names_of_hands_are_free(self):
        outer = made("makes safe 2 0, box b safe 2 0 c, hand a 1, hand c 1, put b 0, hand d 1, get x b")
        inner = made("makes safe 2 0, box q safe 2 0 w, hand w 1, put q v, hand r 1, get y q, tell y")
        self.told(outer, "b", inner, "makes safe 2 0, box a safe 2 0 c, hand a 1",
                  "hand c 1, let c 0, put a c, hand d 1, get d a, let x d, jump 3")


class WithinTest(UponTest):
    def withins(self, outer, inner):
        return [hand[1] for hand in put_upon(outer, "b", inner)[4]]

    def test_times_the_greatest_of_inner(self):
        outer = made("makes safe 2 0, box b safe 2 0 w",
                     "hand w 5, put b v, hand r 6, get x b, hand s 7, tell 0, hand t 0, get x b")
        for withins, times in (((3, 1, 2), 3), ((1, 3, 2), 3), ((1, 2, 4), 4), ((0, 0, 9), 9), ((0, 1, 0), 1)):
            inner = made("makes safe 2 0", *(f"hand {name} {within}" for name, within in zip("wrs", withins)))
            self.assertEqual(self.withins(outer, inner), [5 * times, 6 * times, 7, 0])

    def test_its_own_where_that_is_none(self):
        inner = made("makes safe 2 0, hand w 0, hand r 0")
        outer = made("makes safe 2 0, box b safe 2 0 w, hand w 5, put b v, hand r 6, get x b")
        self.assertEqual(self.withins(outer, inner), [5, 6])

    def test_the_hand_that_writes_the_box_without_a_put_keeps_its_own(self):
        outer = made("makes safe 2 0, box b safe 2 0 w, hand w 5, let b 1, hand r 6, get x b")
        self.assertEqual(self.withins(outer, passed_on("safe", "safe", within=9)), [5, 54])

    def test_four_hundred_is_let(self):
        outer = made("makes safe 2 0, box b safe 2 0 w, hand w 40, put b v, hand r 400")
        self.assertEqual(self.withins(outer, made("makes safe 2 0, hand w 10, hand r 1")), [400, 400])
        self.refused(outer, "b", made("makes safe 2 0, hand w 11, hand r 1"))
        self.refused(outer, "b", made("makes safe 2 0, hand w 1, hand r 11"))


class RefusedTest(UponTest):
    def test_no_such_box(self):
        outer = STEADY_OF_BITS
        deep = ()
        for _ in range(100000):
            deep = (deep,)
        for name in ("d", "", "A", "a ", "w", "x", None, 0, True, 1.5, (), ("a",), ["a"], {}, {"a"}, b"a", deep):
            self.refused(outer, name, STEADY_OF_SAFE)
        self.refused(made("makes safe 2 0, hand w 0, hand r 0"), "b", STEADY_OF_SAFE)

    def test_another_size_or_begin(self):
        outer = made("makes safe 2 0, box b safe 3 1 w, hand w 1, hand r 1")
        for size in range(2, 11):
            for begin in range(size):
                inner = made(f"makes safe {size} {begin}, hand w 1, hand r 1")
                if (size, begin) == (3, 1):
                    self.assertEqual(put_upon(outer, "b", inner)[3], ())
                else:
                    self.refused(outer, "b", inner)

    def test_a_weaker_kind(self):
        kinds = ("safe", "steady", "whole")
        for place, box in enumerate(kinds):
            outer = made(f"makes safe 2 0, box b {box} 2 0 w, hand w 1, hand r 1")
            for number, kind in enumerate(kinds):
                inner = made(f"makes {kind} 2 0, hand w 1, hand r 1")
                if number < place:
                    self.refused(outer, "b", inner)
                else:
                    self.assertEqual(put_upon(outer, "b", inner)[3], ())

    def test_fewer_readers_than_hands_that_get_it(self):
        for getters in range(5):
            hands = [f"hand {name} 1" + ", get x b" * (number < getters) for number, name in enumerate("wrst")]
            outer = made("makes safe 2 0, box b safe 2 0 w", *hands)
            for readers in (1, 2, 3):
                inner = made("makes safe 2 0", *(f"hand {name} 1" for name in "wrst"[:readers + 1]))
                if readers < getters:
                    self.refused(outer, "b", inner)
                else:
                    check_making(put_upon(outer, "b", inner))

    def test_a_seventh_box(self):
        for ours in range(1, 7):
            for theirs in range(7):
                outer = made("makes safe 2 0", *(f"box {name} safe 2 0 w" for name in "pqrstu"[:ours]), "hand w 1, hand r 1")
                inner = made("makes safe 2 0", *(f"box {name} safe 2 0 w" for name in "pqrstu"[:theirs]),
                             "hand w 1, hand r 1")
                if ours - 1 + theirs > 6:
                    self.refused(outer, "p", inner)
                else:
                    self.assertEqual(len(put_upon(outer, "p", inner)[3]), ours - 1 + theirs)

    def test_a_sixty_first_row(self):
        for theirs in (0, 1, 28, 29, 30, 58, 59, 60):
            inner = made("makes safe 2 0", ", ".join(["hand w 1"] + ["done"] * theirs), "hand r 1, tell 0")
            for ours in (1, 2, 30, 31):
                rows = ["put b v"] + ["done"] * (ours - 1)
                outer = made("makes safe 2 0, box b safe 2 0 w", ", ".join(["hand w 1"] + rows), "hand r 1")
                if ours + theirs > 60:
                    self.refused(outer, "b", inner)
                else:
                    self.assertEqual(len(put_upon(outer, "b", inner)[4][0][2]), ours + theirs)

    def test_a_sixty_first_row_of_a_reader(self):
        for tells in (0, 1, 29, 30, 31, 60):
            inner = made("makes safe 2 0, hand w 1", ", ".join(["hand r 1"] + ["tell 0"] * tells))
            for ours in (0, 1, 2, 3):
                outer = made("makes safe 2 0, box b safe 2 0 w, hand w 1",
                             ", ".join(["hand r 1"] + ["get x b"] + ["tell 0"] * ours))
                if 2 * tells + ours > 60:
                    self.refused(outer, "b", inner)
                else:
                    self.assertEqual(len(put_upon(outer, "b", inner)[4][1][2]), 2 * tells + ours)

    def test_the_class_of_the_refusal(self):
        with self.assertRaises(StrongError) as taken:
            put_upon(STEADY_OF_BITS, None, STEADY_OF_SAFE)
        self.assertIsInstance(taken.exception, ValueError)
        for other in (NoMaking, NoText, NoEvents, NoStep, NoPaper, TooMany, NoLine):
            self.assertNotIsInstance(taken.exception, other)


class WholeTest(UponTest):
    def test_what_is_handed_in_stays(self):
        before = copy.deepcopy((STEADY_OF_BITS, STEADY_OF_SAFE))
        put_upon(STEADY_OF_BITS, "b", STEADY_OF_SAFE)
        self.assertEqual((STEADY_OF_BITS, STEADY_OF_SAFE), before)

    def test_by_their_names(self):
        told = put_upon(inner=STEADY_OF_SAFE, name="b", outer=STEADY_OF_BITS)
        self.assertEqual(told, put_upon(STEADY_OF_BITS, "b", STEADY_OF_SAFE))

    def test_again_and_again(self):
        # Each of the three boxes made of a safe one in turn: a begins with 1, so its inner making does.
        first = STEADY_OF_SAFE[:2] + (1,) + ((("b", "safe", 2, 1, "w"),),) + STEADY_OF_SAFE[4:]
        making = STEADY_OF_BITS
        for name, inner in (("a", first), ("b", STEADY_OF_SAFE), ("c", STEADY_OF_SAFE)):
            making = put_upon(making, name, inner)
        check_making(making)
        self.assertEqual([box[:4] for box in making[3]], [
            ("d", "safe", 2, 1), ("a", "safe", 2, 0), ("b", "safe", 2, 0)])

    def test_makings_by_chance_are_let_by(self):
        chance = random.Random(19)
        told = 0
        for _ in range(400):
            outer = near_making(chance)
            box = chance.choice(outer[3])
            inner = with_kind(near_making(chance), box[1])
            try:
                making = put_upon(outer, box[0], inner)
            except NoUpon:
                continue
            check_making(making)
            told += 1
        self.assertGreater(told, 50)


if __name__ == "__main__":
    unittest.main()
