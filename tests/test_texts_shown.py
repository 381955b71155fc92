"""Point 7: the text of a making, and the making read from it again."""

import random
import unittest

from samples import (
    BOXES, ONE, READER_ROWS, V, WRITER_ROWS, X, full, making_of, making_with_hands, nested,
)
from strongboxes.makings import check_making
from strongboxes.texts import read_making, shown_making

KINDS = ("safe", "steady", "whole")
BARE = (("w", 0, ()), ("r", 0, ()))

ALL_WORDS = (
    "whole", 10, 7,
    (("b", "safe", 2, 1, "w"), ("not", "steady", 10, 9, "r"), ("abcdefgh", "whole", 3, 0, "box")),
    (
        ("w", 400, (
            ("put", "b", V),
            ("get", "x", "not"),
            ("let", "x", ("+", X, ("num", 9))),
            ("unless", ("=", X, ("-", V, ONE)), 6),
            ("jump", 0),
            ("done",),
        )),
        ("r", 17, (
            ("put", "not", ("num", 0)),
            ("unless", ("not", ("<", ("num", 0), X)), 3),
            ("get", "put", "abcdefgh"),
            ("tell", ("and", ("var", "put"), ("or", X, ("num", 5)))),
        )),
        ("box", 0, (("put", "abcdefgh", ("or", ("and", ONE, X), ("not", X))),)),
        ("makes", 3, ()),
    ),
)
ALL_WORDS_TEXT = """makes whole 10 7
box b safe 2 1 w
box not steady 10 9 r
box abcdefgh whole 3 0 box
hand w 400
put b v
get x not
let x + x 9
unless 6 = x - v 1
jump 0
done
hand r 17
put not 0
unless 3 not < 0 x
get put abcdefgh
tell and put or x 5
hand box 0
put abcdefgh or and 1 x not x
hand makes 3"""


def very_kinds(thing):
    """A thing with the kind of each part, so that True is told from 1 and a list from a tuple."""
    if isinstance(thing, (tuple, list)):
        return (type(thing), [very_kinds(part) for part in thing])
    return (type(thing), thing)


def some_expression(chance, deep, names):
    sort = chance.randrange(5) if deep > 1 else chance.randrange(2)
    if sort == 0:
        return ("num", chance.randrange(10))
    if sort == 1:
        return ("var", chance.choice(names))
    if sort == 2:
        return ("not", some_expression(chance, deep - 1, names))
    word = chance.choice(("+", "-", "=", "<", "and", "or"))
    return (word, some_expression(chance, deep - 1, names), some_expression(chance, deep - 1, names))


def some_row(chance, number, name, boxes, length):
    """A row that the hand with this number may have."""
    variables = ["x", "old", "abcdefgh", "box"]
    known = variables + ["v"] if number == 0 else variables
    own = [box[0] for box in boxes if box[4] == name]
    words = ["let", "unless", "jump", "done" if number == 0 else "tell"]
    words += ["get"] if boxes else []
    words += ["put"] if own else []
    word = chance.choice(words)
    expression = some_expression(chance, chance.randrange(1, 6), known)
    return {
        "put": ("put", chance.choice(own or ["none"]), expression),
        "get": ("get", chance.choice(variables), chance.choice(boxes or [("none",)])[0]),
        "let": ("let", chance.choice(variables), expression),
        "unless": ("unless", expression, chance.randrange(length + 1)),
        "jump": ("jump", chance.randrange(length + 1)),
        "tell": ("tell", expression),
        "done": ("done",),
    }[word]


def some_making(chance):
    names = ["w", "hand", "reader", "done"][:chance.randrange(2, 5)]
    boxes = []
    for name in ["b", "makes", "and", "abcdefgh", "v", "zz"][:chance.randrange(7)]:
        size = chance.randrange(2, 11)
        boxes.append((name, chance.choice(KINDS), size, chance.randrange(size), chance.choice(names)))
    hands = []
    for number, name in enumerate(names):
        length = chance.choice((0, 1, 2, 5, 60))
        rows = tuple(some_row(chance, number, name, boxes, length) for _ in range(length))
        hands.append((name, chance.choice((0, 7, 10, 99, 100, 400)), rows))
    size = chance.randrange(2, 11)
    return (chance.choice(KINDS), size, chance.randrange(size), tuple(boxes), tuple(hands))


class TextTest(unittest.TestCase):
    def text_of(self, making, text):
        """The making has this text, and the text is of this making."""
        with self.subTest(text):
            check_making(making)
            self.assertEqual(shown_making(making), text)
            self.reads_again(making)

    def reads_again(self, making):
        again = read_making(shown_making(making))
        self.assertEqual(very_kinds(again), very_kinds(making))


class WholeTextsTest(TextTest):
    def test_line_for_line(self):
        self.text_of(ALL_WORDS, ALL_WORDS_TEXT)

    def test_an_ordinary_one(self):
        self.text_of(making_of(), "\n".join((
            "makes steady 2 0",
            "box b steady 2 0 w",
            "box c safe 3 2 r",
            "hand w 9", "get x b", "unless 3 = x v", "done", "put b v", "jump 5",
            "hand r 9", "get x b", "unless 3 not = x 1", "let x - x x", "tell x",
        )))

    def test_the_least_one_has_three_lines(self):
        self.text_of(("safe", 2, 0, (), BARE), "makes safe 2 0\nhand w 0\nhand r 0")

    def test_arguments_by_their_names(self):
        self.assertEqual(shown_making(making=ALL_WORDS), ALL_WORDS_TEXT)
        self.assertEqual(read_making(text=ALL_WORDS_TEXT), ALL_WORDS)

    def test_many_makings_are_read_again(self):
        chance = random.Random(7)
        for _ in range(400):
            making = some_making(chance)
            check_making(making)
            self.reads_again(making)

    def test_what_was_read_is_not_kept_for_the_next_text(self):
        shorter = read_making("makes safe 2 0\nhand w 0\nhand r 0")
        self.assertEqual(read_making(ALL_WORDS_TEXT), ALL_WORDS)
        self.assertEqual(read_making("makes safe 2 0\nhand w 0\nhand r 0"), shorter)


class HeadsTest(TextTest):
    def test_kinds_sizes_and_begins(self):
        for kind in KINDS:
            for size in range(2, 11):
                for begin in range(size):
                    self.text_of((kind, size, begin, (), BARE), f"makes {kind} {size} {begin}\nhand w 0\nhand r 0")

    def test_boxes_of_all_kinds_sizes_and_begins(self):
        for kind in KINDS:
            for size in range(2, 11):
                for begin in range(size):
                    making = making_with_hands(BARE, (("box", kind, size, begin, "r"),))
                    text = f"makes steady 2 0\nbox box {kind} {size} {begin} r\nhand w 0\nhand r 0"
                    self.text_of(making, text)

    def test_none_to_six_boxes_in_their_order(self):
        boxes = (("f", "safe", 2, 1, "r"), ("e", "whole", 3, 0, "w"), ("d", "steady", 9, 8, "r"),
                 ("c", "safe", 2, 1, "w"), ("b", "whole", 2, 1, "r"), ("a", "steady", 10, 9, "w"))
        lines = ["box f safe 2 1 r", "box e whole 3 0 w", "box d steady 9 8 r",
                 "box c safe 2 1 w", "box b whole 2 1 r", "box a steady 10 9 w"]
        for many in range(7):
            text = "\n".join(["makes steady 2 0"] + lines[:many] + ["hand w 0", "hand r 0"])
            self.text_of(making_with_hands(BARE, boxes[:many]), text)

    def test_two_to_four_hands_with_rows_and_without(self):
        hands = (("w", 1, ()), ("r", 2, (("tell", ONE),)), ("s", 3, ()), ("abcdefgh", 4, (("jump", 0), ("jump", 2))))
        lines = ["hand w 1", "hand r 2\ntell 1", "hand s 3", "hand abcdefgh 4\njump 0\njump 2"]
        for many in (2, 3, 4):
            self.text_of(making_with_hands(hands[:many]), "\n".join(["makes steady 2 0"] + lines[:many]))

    def test_told_counts_of_one_to_three_figures(self):
        for within in (0, 1, 9, 10, 11, 40, 99, 100, 101, 399, 400):
            making = making_with_hands((("w", within, ()), ("r", 400 - within, ())))
            self.text_of(making, f"makes steady 2 0\nhand w {within}\nhand r {400 - within}")


class RowsTest(TextTest):
    def text_of_rows(self, writer, reader, lines, reader_lines):
        making = making_of(boxes=BOXES, writer=writer, reader=reader)
        heads = ["makes steady 2 0", "box b steady 2 0 w", "box c safe 3 2 r", "hand w 9"]
        self.text_of(making, "\n".join(heads + lines + ["hand r 9"] + reader_lines))

    def test_each_word_by_itself(self):
        both = [
            (("get", "x", "b"), "get x b"),
            (("let", "x", ONE), "let x 1"),
            (("unless", X, 1), "unless 1 x"),
            (("unless", ("num", 1), 0), "unless 0 1"),
            (("jump", 1), "jump 1"),
        ]
        for row, line in both + [(("put", "b", V), "put b v"), (("done",), "done")]:
            self.text_of_rows((row,), (), [line], [])
        for row, line in both + [(("put", "c", X), "put c x"), (("tell", X), "tell x")]:
            self.text_of_rows((), (row,), [], [line])

    def test_the_target_of_unless_stands_ahead(self):
        row = ("unless", ("<", ("num", 2), ("num", 3)), 1)
        self.text_of_rows((row,), (row,), ["unless 1 < 2 3"], ["unless 1 < 2 3"])

    def test_sixty_rows_and_targets_of_two_figures(self):
        rows = tuple(("jump", target) for target in range(1, 61))
        lines = [f"jump {target}" for target in range(1, 61)]
        self.text_of_rows(rows, rows, lines, lines)
        rows = tuple(("unless", X, target) for target in range(1, 61))
        lines = [f"unless {target} x" for target in range(1, 61)]
        self.text_of_rows(rows, rows, lines, lines)

    def test_variables_and_boxes_called_like_words_of_rows(self):
        for name in ("put", "get", "let", "unless", "jump", "tell", "done", "box", "hand", "makes", "safe", "num"):
            boxes = ((name, "safe", 2, 0, "w"),)
            writer = (("put", name, V), ("get", name, name), ("let", name, ("not", ("var", name))))
            text = (f"makes steady 2 0\nbox {name} safe 2 0 w\nhand w 9\nput {name} v\nget {name} {name}\n"
                    f"let {name} not {name}\nhand r 9\ntell {name}")
            self.text_of(making_of(boxes=boxes, writer=writer, reader=(("tell", ("var", name)),)), text)


class ExpressionsTest(TextTest):
    def tells(self, expression, words):
        making = making_with_hands((("w", 0, (("let", "x", expression),)), ("r", 0, (("tell", expression),))))
        self.text_of(making, f"makes steady 2 0\nhand w 0\nlet x {words}\nhand r 0\ntell {words}")

    def test_figures_and_names(self):
        for figure in range(10):
            self.tells(("num", figure), str(figure))
        for name in ("x", "a", "z", "abcdefgh", "num", "var", "nota", "o", "an"):
            self.tells(("var", name), name)

    def test_each_word(self):
        self.tells(("not", X), "not x")
        for word in ("+", "-", "=", "<", "and", "or"):
            self.tells((word, X, ("num", 3)), f"{word} x 3")
            self.tells((word, ("num", 3), X), f"{word} 3 x")

    def test_which_one_stands_within_which(self):
        y, z = ("var", "y"), ("var", "z")
        self.tells(("-", ("-", X, y), z), "- - x y z")
        self.tells(("-", X, ("-", y, z)), "- x - y z")
        self.tells(("not", ("-", X, y)), "not - x y")
        self.tells(("-", ("not", X), y), "- not x y")
        self.tells(("-", X, ("not", y)), "- x not y")
        self.tells(("and", ("or", X, ("not", ("not", y))), ("=", ONE, ("+", z, X))), "and or x not not y = 1 + z x")

    def test_one_to_five_deep(self):
        for deep in range(1, 6):
            self.tells(nested(deep), "not " * (deep - 1) + "x")
        words = "x"
        for deep in range(1, 6):
            self.tells(full(deep), words)
            words = f"+ {words} {words}"


if __name__ == "__main__":
    unittest.main()
