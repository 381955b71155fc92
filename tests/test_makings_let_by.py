"""Points 4, 5 and 6: makings that check_making lets by."""

import copy
import unittest

from samples import (
    BOXES, ONE, READER_ROWS, V, WORDS_OF_ROWS, WRITER_ROWS, X,
    full, making_of, making_with_hands, nested,
)
from strongboxes.makings import check_making

BARE = (("w", 0, ()), ("r", 0, ()))


class LetByTest(unittest.TestCase):
    def let_by(self, making, label=""):
        with self.subTest(label):
            before = copy.deepcopy(making)
            self.assertIsNone(check_making(making))
            self.assertEqual(making, before)


class PartsLetByTest(LetByTest):
    def test_an_ordinary_one(self):
        self.let_by(making_of())
        self.assertIsNone(check_making(making=making_of()))

    def test_the_least_one(self):
        self.let_by(("safe", 2, 0, (), BARE))

    def test_two_to_four_hands(self):
        hands = (("w", 1, WRITER_ROWS), ("r", 2, READER_ROWS), ("s", 3, READER_ROWS), ("t", 4, ()))
        for many in (2, 3, 4):
            self.let_by(making_with_hands(hands[:many], BOXES), many)

    def test_none_to_six_boxes_of_all_kinds(self):
        kinds = ("safe", "steady", "whole", "safe", "steady", "whole")
        boxes = tuple((name, kind, 2, 1, "r") for name, kind in zip("abcdef", kinds))
        for many in range(7):
            self.let_by(making_with_hands(BARE, boxes[:many]), many)

    def test_made_boxes_of_all_kinds_sizes_and_begins(self):
        for kind in ("safe", "steady", "whole"):
            for size in range(2, 11):
                for begin in range(size):
                    self.let_by(making_of(kind=kind, size=size, begin=begin), (kind, size, begin))

    def test_boxes_of_all_kinds_sizes_and_begins(self):
        for kind in ("safe", "steady", "whole"):
            for size in range(2, 11):
                for begin in range(size):
                    boxes = (("b", kind, size, begin, "w"),)
                    self.let_by(making_of(boxes=boxes), (kind, size, begin))

    def test_told_counts(self):
        for within in (0, 1, 399, 400):
            self.let_by(making_with_hands((("w", within, ()), ("r", 400 - within, ()))), within)

    def test_no_rows_and_sixty(self):
        self.let_by(making_of(writer=(), reader=()))
        for many in (1, 59, 60):
            self.let_by(making_of(writer=(("done",),) * many, reader=(("tell", ONE),) * many), many)


class RowsLetByTest(LetByTest):
    def test_rows_of_all_words(self):
        for row in (("put", "b", ONE), ("get", "x", "b"), ("get", "x", "c"), ("let", "x", V),
                    ("unless", V, 0), ("jump", 1), ("done",)):
            self.let_by(making_of(writer=(row,)), row)
        for row in (("put", "c", ONE), ("get", "x", "b"), ("get", "x", "c"), ("let", "x", X),
                    ("unless", X, 0), ("jump", 1), ("tell", X)):
            self.let_by(making_of(reader=(row,)), row)

    def test_every_reader_may_do_what_readers_do(self):
        rows = (("get", "x", "b"), ("put", "e", X), ("tell", X))
        hands = (("w", 9, ()), ("r", 9, ()), ("s", 9, ()), ("t", 9, rows))
        self.let_by(making_with_hands(hands, BOXES + (("e", "whole", 2, 0, "t"),)))

    def test_targets_at_their_edges(self):
        for rows in ((("jump", 0),), (("jump", 1),), (("unless", X, 0),), (("unless", X, 1),)):
            self.let_by(making_of(writer=rows), rows)
            self.let_by(making_of(reader=rows), rows)
        self.let_by(making_of(writer=(("jump", 60),) * 60, reader=(("unless", X, 60),) * 60))

    def test_a_target_goes_by_the_rows_of_its_own_hand(self):
        self.let_by(making_of(writer=(("done",),) * 9 + (("jump", 10),), reader=()))
        self.let_by(making_of(writer=(), reader=(("tell", X),) * 9 + (("jump", 10),)))


class ExpressionsLetByTest(LetByTest):
    def test_in_every_place(self):
        for expression in (("num", 0), ("num", 9), ("var", "x"), ("not", X), ("+", X, ONE), ("-", ONE, X),
                           ("=", X, X), ("<", X, ONE), ("and", X, X), ("or", ONE, X)):
            rows = (("let", "x", expression), ("unless", expression, 0))
            self.let_by(making_of(writer=(("put", "b", expression),) + rows), expression)
            self.let_by(making_of(reader=(("put", "c", expression), ("tell", expression)) + rows), expression)

    def test_one_to_five_deep(self):
        for levels in range(1, 6):
            for expression in (nested(levels), full(levels), nested(levels, ONE), full(levels, ONE)):
                rows = (("put", "b", expression), ("let", "x", expression), ("unless", expression, 0))
                self.let_by(making_of(writer=rows, reader=rows[1:] + (("tell", expression),)), expression)

    def test_v_of_the_writer_at_any_depth(self):
        for levels in range(1, 6):
            self.let_by(making_of(writer=(("put", "b", full(levels, V)), ("unless", nested(levels, V), 1))))

    def test_numbers_above_the_size_of_a_box(self):
        self.let_by(making_of(writer=(("put", "b", ("num", 9)),), reader=(("tell", ("num", 9)),)))


class NamesLetByTest(LetByTest):
    def test_of_one_and_of_eight_letters(self):
        for name in ("a", "z", "abcdefgh", "zzzzzzzz", "qrstuvwx", "ijklmnop"):
            rows = (("get", name, name), ("put", name, ("var", name)), ("let", name, ("not", ("var", name))))
            hands = (("w", 9, ()), (name, 9, rows))
            self.let_by(making_with_hands(hands, ((name, "safe", 2, 0, name),)), name)

    def test_like_words_of_rows_and_of_expressions(self):
        for name in WORDS_OF_ROWS + ("num", "var", "makes", "box", "hand", "safe", "steady", "whole"):
            rows = (("get", name, name), ("put", name, ("var", name)), ("let", name, ("var", name)))
            hands = ((name, 9, rows), ("r", 9, (("get", name, name), ("tell", ("var", name)))))
            self.let_by(making_with_hands(hands, ((name, "safe", 2, 0, name),)), name)

    def test_boxes_and_hands_called_not_and_or_v(self):
        for name in ("not", "and", "or", "v"):
            hands = ((name, 9, (("put", name, V), ("get", "x", name))), ("r", 9, (("get", "x", name),)))
            self.let_by(making_with_hands(hands, ((name, "safe", 2, 0, name),)), name)
            hands = (("w", 9, ()), (name, 9, (("put", name, X), ("get", "x", name))))
            self.let_by(making_with_hands(hands, ((name, "safe", 2, 0, name),)), name)

    def test_names_that_begin_alike(self):
        boxes = (("b", "safe", 2, 0, "w"), ("bb", "safe", 2, 0, "ww"))
        hands = (("w", 9, (("put", "b", ("var", "nots")),)), ("ww", 9, (("put", "bb", ("var", "vv")),)))
        self.let_by(making_with_hands(hands, boxes))

    def test_variables_of_one_name_in_several_hands(self):
        rows = (("let", "x", ONE), ("get", "x", "b"))
        self.let_by(making_of(writer=rows, reader=rows))


if __name__ == "__main__":
    unittest.main()
