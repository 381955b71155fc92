"""Points 2, 5 and 6: what check_making refuses with NoMaking."""

import copy
import unittest

from samples import (
    BOXES, ONE, READER_ROWS, V, WRITER_ROWS, X,
    full, making_of, making_with_hands, nested, with_part,
)
from strongboxes.errors import (
    NoEvents, NoLine, NoMaking, NoPaper, NoStep, NoText, NoUpon, StrongError, TooMany,
)
from strongboxes.makings import check_making

OTHERS = (NoText, NoEvents, NoStep, NoPaper, TooMany, NoUpon, NoLine)
NO_NAMES = ("", "abcdefghi", "A", "aB", "Ab", "a1", "1", "a\n", "\n", "a b", " a", "a ", "a_", "_", "-", "~",
            "`", "{", "abcdefgh\n", "\u00e4", "\u0430", 1, 0, True, None, ("a",), ["a"], {"a": 1}, b"a", 1.0)
NO_WHOLE = (True, False, None, "1", 1.0, "", (), [], (1,), [1], {})
NO_TUPLES = (None, 0, 5, True, "", "abcde", [], {}, b"abcde", 1.5)
NO_EXPRESSIONS = (
    None, 0, 1, True, "", "x", (), [], {}, ("num",), ("var",), ("not",), ("+",), (X,), (1,),
    ("num", -1), ("num", 10), ("num", True), ("num", False), ("num", "1"), ("num", None), ("num", 1.0),
    ("num", ("num", 1)), ("num", 1, 1), ["num", 1],
    ("var", "x", "x"), ("var", X), ("var", 1), ["var", "x"],
    ("not", X, X), ("not", "x"), ("not", 1), ("not", ()), ["not", X], ("not", ["var", "x"]),
    ("+", X), ("-", X), ("=", X), ("<", X), ("and", X), ("or", X),
    ("+", X, X, X), ("and", X, X, X), ["+", X, X], ("+", X, 1), ("+", 1, X), ("+", "x", X), ("or", X, ["num", 1]),
    ("*", X, X), (">", X, X), ("==", X, X), ("xor", X, X), ("And", X, X), ("", X, X), (None, X, X), (0, X),
    ("Num", 1), ("nums", 1), ("numb", X), ("put", "b", X), ("let", "x", X), (("+",), X, X), (["+"], X, X), ("+-", X, X),
)


def deep_tuple(levels):
    thing = ()
    for _ in range(levels):
        thing = (thing,)
    return thing


class RefusedTest(unittest.TestCase):
    def refused(self, making, label=""):
        # The label is shown in the place of the making, which may be too deep to be shown.
        with self.subTest(label):
            with self.assertRaises(NoMaking):
                check_making(making)

    def refused_row(self, row, label=""):
        """A row that neither a writer's nor a reader's rows may have."""
        self.refused(making_of(writer=(row,)), label)
        self.refused(making_of(writer=WRITER_ROWS + (row,)), label)
        self.refused(making_of(reader=(row,)), label)
        self.refused(making_of(reader=READER_ROWS + (row,)), label)

    def refused_expression(self, expression, label=""):
        self.refused(making_of(writer=(("put", "b", expression),)), label)
        self.refused(making_of(reader=(("put", "c", expression),)), label)
        self.refused(making_of(reader=(("tell", expression),)), label)
        self.refused_row(("let", "x", expression), label)
        self.refused_row(("unless", expression, 0), label)


class PartsRefusedTest(RefusedTest):
    def test_what_is_no_tuple_of_five(self):
        for thing in NO_TUPLES + (list(making_of()), object(), making_of, {"making": making_of()}, ("steady",)):
            self.refused(thing, repr(thing))
        for many in range(5):
            self.refused(making_of()[:many], many)
        self.refused(making_of() + ((),))
        self.refused((making_of(),))
        with self.assertRaises(NoMaking):
            check_making(making=None)

    def test_kinds(self):
        for kind in ("", "Safe", "safer", "saf", "atomic", "safe ", "whole\n", 0, 1, True, None,
                     ("safe",), ["safe"], {}, ("safe", "steady", "whole"), b"safe"):
            self.refused(making_of(kind=kind), repr(kind))
            self.refused(making_of(boxes=(with_part(BOXES[0], 1, kind), BOXES[1])), repr(kind))
            self.refused(making_of(boxes=(BOXES[0], with_part(BOXES[1], 1, kind))), repr(kind))

    def test_sizes(self):
        for size in NO_WHOLE + (2.0, "2", -2, -1, 0, 1, 11, 12, 100, 10 ** 30):
            self.refused(making_of(size=size), repr(size))
            self.refused(making_of(boxes=(with_part(BOXES[0], 2, size), BOXES[1])), repr(size))

    def test_begins(self):
        for begin in NO_WHOLE + (-1, -2, 10, 10 ** 30):
            self.refused(making_of(begin=begin), repr(begin))
            self.refused(making_of(boxes=(with_part(BOXES[0], 3, begin), BOXES[1])), repr(begin))
        for size in range(2, 11):
            for begin in (-1, size, size + 1):
                self.refused(making_of(size=size, begin=begin), (size, begin))
                self.refused(making_of(boxes=(("b", "safe", size, begin, "w"), BOXES[1])), (size, begin))

    def test_a_begin_goes_by_the_size_of_its_own_box(self):
        self.refused(making_of(size=2, begin=2, boxes=(("b", "steady", 10, 0, "w"), BOXES[1])))
        self.refused(making_of(size=10, boxes=(("b", "steady", 2, 2, "w"), BOXES[1])))


class BoxesRefusedTest(RefusedTest):
    def test_what_is_no_tuple_of_boxes(self):
        for thing in NO_TUPLES + (list(BOXES), BOXES[0], {"b": BOXES[0]}):
            self.refused(making_of(boxes=thing, writer=(), reader=()), repr(thing))

    def test_what_is_no_box(self):
        for thing in NO_TUPLES + ((), list(BOXES[0]), BOXES[0][:4], BOXES[0][1:], BOXES[0] + (0,), BOXES):
            self.refused(making_of(boxes=(thing,), writer=(), reader=()), repr(thing))
            self.refused(making_of(boxes=BOXES + (thing,)), repr(thing))

    def test_seven_boxes(self):
        boxes = tuple((name, "safe", 2, 0, "w") for name in "abcdefghi")
        for many in (7, 8, 9):
            self.refused(making_of(boxes=boxes[:many], writer=(), reader=()), many)

    def test_names(self):
        for name in NO_NAMES:
            box = (name, "steady", 2, 0, "w")
            self.refused(making_of(boxes=(box,), writer=(), reader=()), repr(name))
            self.refused(making_of(boxes=BOXES + (box,)), repr(name))

    def test_two_of_one_name(self):
        for boxes in ((BOXES[0], BOXES[0]), (BOXES[0], ("b", "whole", 5, 4, "r")),
                      BOXES + (("b", "whole", 5, 4, "r"),), BOXES + (("c", "safe", 3, 2, "w"),)):
            self.refused(making_of(boxes=boxes, writer=(), reader=()), boxes)

    def test_a_hand_that_is_none(self):
        for name in NO_NAMES + ("x", "ww", "b", "c"):
            self.refused(making_of(boxes=(BOXES[0], with_part(BOXES[1], 4, name))), repr(name))
            self.refused(making_of(boxes=(("b", "safe", 2, 0, name),), writer=(), reader=()), repr(name))


class HandsRefusedTest(RefusedTest):
    def test_what_is_no_tuple_of_hands(self):
        hands = making_of()[4]
        for thing in NO_TUPLES + (list(hands), hands[0], {"w": hands[0], "r": hands[1]}):
            self.refused(making_with_hands(thing), repr(thing))

    def test_too_few_and_too_many(self):
        hands = tuple((name, 0, ()) for name in "abcdef")
        for many in (0, 1, 5, 6):
            self.refused(making_with_hands(hands[:many]), many)

    def test_what_is_no_hand(self):
        hand = ("s", 0, ())
        for thing in NO_TUPLES + ((), list(hand), hand[:2], hand[1:], hand + ((),), "abc"):
            self.refused(making_with_hands((thing, ("r", 0, ()))), repr(thing))
            self.refused(making_with_hands((("w", 0, ()), thing)), repr(thing))
            self.refused(making_with_hands((("w", 0, ()), ("r", 0, ()), ("t", 0, ()), thing)), repr(thing))

    def test_names(self):
        for name in NO_NAMES:
            self.refused(making_with_hands(((name, 0, ()), ("r", 0, ()))), repr(name))
            self.refused(making_with_hands((("w", 0, ()), (name, 0, ()))), repr(name))

    def test_two_of_one_name(self):
        for names in ("aa", "aab", "aba", "baa", "abca", "abcc", "aaaa"):
            self.refused(making_with_hands(tuple((name, at, ()) for at, name in enumerate(names))), names)

    def test_told_counts(self):
        for within in NO_WHOLE + (-1, 401, 1000, 10 ** 30):
            self.refused(making_with_hands((("w", within, ()), ("r", 0, ()))), repr(within))
            self.refused(making_with_hands((("w", 0, ()), ("r", within, ()))), repr(within))

    def test_what_is_no_tuple_of_rows(self):
        for thing in NO_TUPLES + ([("jump", 0)], {0: ("jump", 0)}, ("jump", 0), ("done",), ("tell", ONE)):
            self.refused(making_of(writer=thing), repr(thing))
            self.refused(making_of(reader=thing), repr(thing))

    def test_too_many_rows(self):
        for many in (61, 62, 200):
            self.refused(making_of(writer=(("done",),) * many), many)
            self.refused(making_of(reader=(("tell", ONE),) * many), many)


class RowsRefusedTest(RefusedTest):
    def test_what_is_no_row(self):
        for thing in NO_TUPLES + ((), (None,), (0,), ("",), (("jump", 0),), ("stop",), ("Jump", 0), ("jump ", 0),
                                  (["jump"], 0), ({}, 0), ("hop", 0), ("num", 1), ("puts", "b", X), (True, 0),
                                  ("box", "b"), ("x", "b", "c")):
            self.refused_row(thing, repr(thing))

    def test_too_short_and_too_long(self):
        for row in (("put",), ("put", "b"), ("get",), ("get", "x"), ("let",), ("let", "x"),
                    ("unless",), ("unless", X), ("jump",), ("tell",)):
            self.refused_row(row, row)
        for row in (("get", "x", "b", "b"), ("let", "x", X, X), ("unless", X, 0, 0),
                    ("jump", 0, 0), ("jump", 0, 0, 0)):
            self.refused_row(row, row)
        self.refused(making_of(writer=(("put", "b", X, X),)))
        self.refused(making_of(reader=(("put", "c", X, X),)))
        self.refused(making_of(reader=(("tell", X, X),)))
        for row in (("done", 0), ("done", ()), ("done", None, None)):
            self.refused(making_of(writer=(row,)), row)

    def test_lists_in_the_place_of_rows(self):
        for row in (["get", "x", "b"], ["let", "x", X], ["unless", X, 0], ["jump", 0]):
            self.refused_row(row, row)
        self.refused(making_of(writer=(["put", "b", X],)))
        self.refused(making_of(writer=(["done"],)))
        self.refused(making_of(reader=(["tell", X],)))

    def test_parts_in_another_order(self):
        self.refused_row(("unless", 0, X))
        self.refused_row(("let", X, "x"))
        self.refused(making_of(writer=(("put", V, "b"),)))
        self.refused(making_of(writer=(("get", "b", "x"),)))

    def test_targets(self):
        for target in NO_WHOLE + (-1, -2, 62, 10 ** 30, "0", X):
            self.refused_row(("jump", target), repr(target))
            self.refused_row(("unless", X, target), repr(target))

    def test_targets_just_behind_the_rows(self):
        for many in (1, 2, 30, 60):
            for row in (("jump", many + 1), ("unless", X, many + 1)):
                self.refused(making_of(writer=(("done",),) * (many - 1) + (row,)), (many, row))
                self.refused(making_of(reader=(row,) + (("tell", ONE),) * (many - 1)), (many, row))

    def test_a_target_goes_by_the_rows_of_its_own_hand(self):
        self.refused(making_of(writer=(("done",),) * 9, reader=(("jump", 2),)))
        self.refused(making_of(writer=(("jump", 2),), reader=(("tell", ONE),) * 9))

    def test_a_put_of_a_box_that_another_hand_writes(self):
        self.refused(making_of(writer=(("put", "c", ONE),)))
        self.refused(making_of(reader=(("put", "b", ONE),)))
        hands = (("w", 0, ()), ("r", 0, ()), ("s", 0, (("put", "c", ONE),)))
        self.refused(making_with_hands(hands, BOXES))

    def test_a_put_or_get_of_a_box_that_is_none(self):
        for name in NO_NAMES + ("x", "w", "r", "bb", "v"):
            self.refused_row(("put", name, ONE), repr(name))
            self.refused_row(("get", "x", name), repr(name))
        self.refused(making_of(boxes=(), writer=(("get", "x", "b"),), reader=()))
        self.refused(making_of(boxes=(), writer=(), reader=(("get", "x", "b"),)))
        self.refused(making_of(boxes=(), writer=(("put", "b", ONE),), reader=()))

    def test_tell_of_the_writer_and_done_of_a_reader(self):
        self.refused(making_of(writer=(("tell", ONE),)))
        self.refused(making_of(writer=WRITER_ROWS + (("tell", V),)))
        self.refused(making_of(reader=(("done",),)))
        self.refused(making_of(reader=READER_ROWS + (("done",),)))
        for place in (1, 2, 3):
            hands = with_part((("w", 0, ()), ("r", 0, ()), ("s", 0, ()), ("t", 0, ())), place, ("u", 0, (("done",),)))
            self.refused(making_with_hands(hands), place)


class VariablesRefusedTest(RefusedTest):
    def test_names(self):
        for name in NO_NAMES:
            self.refused_row(("get", name, "b"), repr(name))
            self.refused_row(("let", name, ONE), repr(name))
            self.refused_expression(("var", name), repr(name))
            self.refused_expression(("+", ONE, ("not", ("var", name))), repr(name))

    def test_called_not_and_or(self):
        for name in ("not", "and", "or"):
            self.refused_row(("get", name, "b"), name)
            self.refused_row(("let", name, ONE), name)
            self.refused_expression(("var", name), name)
            self.refused_expression(("=", ONE, ("var", name)), name)
            self.refused_expression(nested(5, ("var", name)), name)

    def test_v_in_the_rows_of_a_reader(self):
        for expression in (V, ("not", V), ("+", V, X), ("+", X, V), nested(5, V), full(5, V)):
            for row in (("put", "c", expression), ("let", "x", expression),
                        ("unless", expression, 0), ("tell", expression)):
                self.refused(making_of(reader=(row,)), row)
                self.refused(making_of(reader=READER_ROWS + (row,)), row)
        for place in (1, 2, 3):
            hands = (("w", 0, ()), ("r", 0, ()), ("s", 0, ()), ("t", 0, ()))
            self.refused(making_with_hands(with_part(hands, place, ("u", 0, (("tell", V),)))), place)

    def test_v_set(self):
        self.refused_row(("get", "v", "b"))
        self.refused_row(("let", "v", ONE))
        self.refused(making_of(writer=(("let", "v", V),)))


class ExpressionsRefusedTest(RefusedTest):
    def test_alone(self):
        for expression in NO_EXPRESSIONS:
            self.refused_expression(expression, repr(expression))

    def test_within_others(self):
        for expression in NO_EXPRESSIONS:
            for outer in (("not", expression), ("+", expression, X), ("-", X, expression), ("or", ONE, expression),
                          ("and", X, ("<", ("not", expression), ONE)), nested(4, expression)):
                self.refused_expression(outer, repr(outer))

    def test_six_deep_and_more(self):
        for levels in (6, 7, 8, 60):
            self.refused_expression(nested(levels), levels)
            self.refused_expression(nested(levels, ONE), levels)
        self.refused_expression(full(6))
        self.refused_expression(full(6, ONE))
        for word in ("+", "-", "=", "<", "and", "or"):
            self.refused_expression((word, nested(5), X), word)
            self.refused_expression((word, X, nested(5)), word)
        self.refused_expression(("not", full(5)))

    def test_very_deep_ones(self):
        for levels in (5000, 50000):
            for thing in (nested(levels), full(levels), deep_tuple(levels), ("num", deep_tuple(levels)),
                          ("var", deep_tuple(levels)), (deep_tuple(levels), X, X)):
                self.refused_expression(thing, levels)

    def test_very_deep_things_in_other_places(self):
        deep = nested(50000)
        making = making_of()
        self.refused(deep, "making")
        for place in range(5):
            self.refused(with_part(making, place, deep), ("making", place))
            self.refused(making_of(boxes=(with_part(BOXES[0], place, deep), BOXES[1])), ("box", place))
        for place in range(3):
            hands = (with_part(making[4][0], place, deep), making[4][1])
            self.refused(making_with_hands(hands, BOXES), ("hand", place))
        for row in (deep, (deep,), ("put", deep, X), ("get", deep, "b"), ("get", "x", deep), ("let", deep, X),
                    ("unless", X, deep), ("jump", deep), ("done", deep)):
            self.refused_row(row, "row")


class RefusalTest(unittest.TestCase):
    def test_its_class(self):
        with self.assertRaises(NoMaking) as taken:
            check_making(None)
        self.assertIsInstance(taken.exception, StrongError)
        self.assertIsInstance(taken.exception, ValueError)
        for other in OTHERS:
            self.assertNotIsInstance(taken.exception, other)

    def test_what_is_refused_stays_as_it_was(self):
        for making in (list(making_of()), making_of(boxes=[["b", "safe", 2, 0, "w"]]), {"kind": ["safe"]},
                       making_of(writer=[["put", "b", ["num", 1]]]), making_of(reader=(["tell", ["num", 1]],)),
                       making_of(writer=(("put", "b", ("not", ["num", 1])),)), making_of(kind=["safe"])):
            before = copy.deepcopy(making)
            with self.assertRaises(NoMaking):
                check_making(making)
            self.assertEqual(making, before)

    def test_a_refusal_leaves_nothing_behind(self):
        making = making_of()
        for _ in range(2):
            with self.assertRaises(NoMaking):
                check_making(with_part(making, 1, 11))
            self.assertIsNone(check_making(making))


if __name__ == "__main__":
    unittest.main()
