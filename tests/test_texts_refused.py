"""Point 7: texts that are of no making, refused with NoText or as check_making does."""

import unittest

from strongboxes.errors import (
    NoEvents, NoLine, NoMaking, NoPaper, NoStep, NoText, NoUpon, StrongError, TooMany,
)
from strongboxes.texts import read_making

LINES = [
    "makes steady 2 0",
    "box b safe 2 0 w",
    "box c whole 3 2 r",
    "hand w 2",
    "unless 3 not = v old",
    "put b v",
    "let old v",
    "jump 4",
    "hand r 20",
    "get x b",
    "put c 1",
    "unless 3 < x 2",
    "tell + x 0",
]
LEAST = ["makes safe 2 0", "hand w 0", "hand r 0"]


def with_line(place, line, lines=LINES):
    """The text of the lines with another one at a place."""
    return "\n".join(lines[:place] + [line] + lines[place + 1:])


def with_lines_at(place, more, lines=LINES):
    """The text of the lines with more of them ahead of a place."""
    return "\n".join(lines[:place] + list(more) + lines[place:])


class RefusedTest(unittest.TestCase):
    def no_text(self, text, at, label=None):
        with self.subTest(label or text):
            with self.assertRaises(NoText) as taken:
                read_making(text)
            self.assertIs(type(taken.exception), NoText)
            self.assertEqual((type(taken.exception.at), taken.exception.at), (int, at))

    def no_making(self, text, label=None):
        with self.subTest(label or text):
            with self.assertRaises(NoMaking) as taken:
                read_making(text)
            self.assertIs(type(taken.exception), NoMaking)

    def test_the_lines_themselves_are_let_by(self):
        self.assertEqual(len(read_making("\n".join(LINES))), 5)
        self.assertEqual(len(read_making("\n".join(LEAST))), 5)


class NoTextAtAllTest(RefusedTest):
    def test_what_is_no_text(self):
        for thing in (None, 0, 1, True, [], ["makes safe 2 0"], (), {}, b"makes safe 2 0\nhand w 0\nhand r 0",
                      ("safe", 2, 0, (), (("w", 0, ()), ("r", 0, ())))):
            self.no_text(thing, 0, repr(thing))

    def test_texts_of_no_such_rows(self):
        for text in ("", " ", "\n", "\n\n", "x", "makes", "box", "hand", "done", "Makes safe 2 0", "none at all\nno"):
            self.no_text(text, 0)

    def test_the_class_of_the_refusal(self):
        with self.assertRaises(StrongError) as taken:
            read_making("")
        self.assertIsInstance(taken.exception, ValueError)
        for other in (NoMaking, NoEvents, NoStep, NoPaper, TooMany, NoUpon, NoLine):
            self.assertNotIsInstance(taken.exception, other)


class RowsByThemselvesTest(RefusedTest):
    def test_a_row_of_no_kind_at_each_place(self):
        for place in range(len(LINES)):
            for line in ("", " ", "x", "0", "v", "none of them", "Put b v", "PUT b v", "puts b v", "pu b v", "box"):
                self.no_text(with_line(place, line), place, (place, line))

    def test_each_row_with_a_word_less(self):
        for place, line in enumerate(LINES):
            words = line.split(" ")
            for number in range(len(words)):
                shorter = " ".join(words[:number] + words[number + 1:])
                if shorter != "unless 3 = v old":
                    self.no_text(with_line(place, shorter), place, (place, shorter))

    def test_each_row_with_a_word_more(self):
        for place, line in enumerate(LINES):
            words = line.split(" ")
            for number in range(len(words) + 1):
                for word in ("x", "1", "+"):
                    longer = " ".join(words[:number] + [word] + words[number:])
                    self.no_text(with_line(place, longer), place, (place, longer))

    def test_each_row_with_two_words_changed_round(self):
        rows_all_the_same = (
            "makes steady 0 2", "box b safe 0 2 w", "box w safe 2 0 b", "box c whole 2 3 r", "box r whole 3 2 c",
            "unless 3 not = old v", "unless 3 = not v old", "put v b", "let v old", "get b x", "unless 2 < x 3",
            "unless 3 < 2 x", "tell + 0 x")
        for place, line in enumerate(LINES):
            words = line.split(" ")
            for first in range(len(words)):
                for second in range(first):
                    other = list(words)
                    other[first], other[second] = words[second], words[first]
                    text = " ".join(other)
                    if text not in rows_all_the_same:
                        self.no_text(with_line(place, text), place, (place, text))

    def test_blanks(self):
        for place, line in enumerate(LINES):
            words = line.split(" ")
            others = [" " + line, line + " ", "  " + line, line + "  ", line.replace(" ", "\t")]
            for number in range(1, len(words)):
                others.append(" ".join(words[:number]) + "  " + " ".join(words[number:]))
                others.append("".join([" ".join(words[:number]), " ".join(words[number:])]))
            for other in others:
                self.no_text(with_line(place, other), place, (place, other))

    def test_done_stands_alone(self):
        lines = LEAST[:2] + ["done"] + LEAST[2:]
        self.assertEqual(len(read_making("\n".join(lines))), 5)
        for line in ("done ", " done", "done 0", "done done", "done\t", "don", "donee"):
            self.no_text(with_line(2, line, lines), 2)

    def test_empty_rows(self):
        for place in range(len(LINES) + 1):
            self.no_text(with_lines_at(place, [""]), place, place)

    def test_a_line_feed_ahead_or_behind(self):
        text = "\n".join(LINES)
        self.no_text("\n" + text, 0)
        self.no_text(text + "\n", len(LINES))
        self.no_text(text + "\n\n", len(LINES))
        self.no_text("\n".join(LEAST) + "\n", 3)

    def test_the_first_of_several(self):
        lines = list(LINES)
        for place in (12, 9, 7, 4, 1, 0):
            lines[place] = "none"
            self.no_text("\n".join(lines), place)


class WordsTest(RefusedTest):
    def no_text_with(self, forms, words):
        """Each form, a place and a line with WORD in it, is refused there with each of the words."""
        for place, form in forms:
            for word in words:
                line = form.replace("WORD", word)
                self.no_text(with_line(place, line), place, line)

    def test_numbers(self):
        forms = ((0, "makes steady WORD 0"), (0, "makes steady 2 WORD"), (1, "box b safe WORD 0 w"),
                 (1, "box b safe 2 WORD w"), (3, "hand w WORD"), (8, "hand r WORD"), (4, "unless WORD x"),
                 (7, "jump WORD"), (11, "unless WORD < x 2"))
        self.no_text_with(forms, ("00", "01", "02", "007", "000", "010", "0400", "1000", "0000", "9999", "12345", "-1",
                                  "+1", "1.0", "1_0", "0x1", "a", "one", "v", "", "1a", "a1", "1-", "\u0661", "\u00b2"))

    def test_figures_of_expressions(self):
        forms = ((5, "put b WORD"), (6, "let old WORD"), (4, "unless 3 WORD"), (12, "tell WORD"),
                 (12, "tell + WORD x"), (12, "tell + x WORD"), (12, "tell not WORD"))
        self.no_text_with(forms, ("10", "00", "01", "99", "100", "-1", "+1", "1.", "", "1a", "x1", "\u0661", "\u00b2"))

    def test_names(self):
        forms = ((1, "box WORD safe 2 0 w"), (1, "box b safe 2 0 WORD"), (3, "hand WORD 2"), (5, "put WORD v"),
                 (6, "let WORD v"), (9, "get WORD b"), (9, "get x WORD"), (6, "let old WORD"), (12, "tell + x WORD"),
                 (4, "unless 3 WORD"))
        self.no_text_with(forms, ("", "abcdefghi", "X", "Old", "x_y", "a.b", "a-b", "x1", "1x", "\u00e4", "x\t", "*",
                                  "aB", "a'", "==", ">", "/", "()", "!"))
        self.no_text_with(forms[:7], ("1", "0", "+", "<"))

    def test_kinds(self):
        forms = ((0, "makes WORD 2 0"), (1, "box b WORD 2 0 w"), (2, "box c WORD 3 2 r"))
        self.no_text_with(forms, ("", "Safe", "saf", "safes", "weak", "atomic", "0", "none", "safe,", "kind"))

    def test_expressions_that_lack_something_or_have_too_much(self):
        ends = ["", "+", "+ x", "+ x y z", "x y", "1 1", "not", "not x y", "not not", "and", "or x", "and x or y",
                "x + y", "x and y", "( x )", "= = x y", "- + x y z 1", "not + x", "+ not x", "x not", "1 -", "num 1",
                "var x", "< < < 1 2 3"]
        for place, head in ((5, "put b"), (6, "let old"), (4, "unless 3"), (12, "tell")):
            for end in ends:
                self.no_text(with_line(place, f"{head} {end}"), place, (head, end))

    def test_the_target_of_unless_behind_its_expression(self):
        for line in ("unless not = v old 3", "unless v 3", "unless = v old 3", "unless 3", "unless v"):
            self.no_text(with_line(4, line), 4)


class PlacesTest(RefusedTest):
    def test_makes_is_first(self):
        for place in range(1, len(LINES)):
            lines = LINES[1:place + 1] + LINES[:1] + LINES[place + 1:]
            self.no_text("\n".join(lines), 0, place)
        self.no_text("\n".join(LINES[1:]), 0)
        for line in ("box b safe 2 0 w", "hand w 0", "jump 0", "done"):
            self.no_text(line, 0)
            self.no_text("\n".join([line] + LEAST), 0)

    def test_makes_stands_once(self):
        for place in range(1, len(LINES) + 1):
            for line in (LINES[0], "makes whole 3 1"):
                self.no_text(with_lines_at(place, [line]), place, (place, line))

    def test_a_box_behind_a_hand(self):
        for place in range(4, len(LINES) + 1):
            self.no_text(with_lines_at(place, ["box d safe 2 0 w"]), place, place)

    def test_a_row_of_a_program_ahead_of_any_hand(self):
        for line in ("put b v", "get x b", "let x 1", "unless 0 x", "jump 0", "tell x", "done"):
            for place in (1, 2, 3):
                self.no_text(with_lines_at(place, [line]), place, (place, line))

    def test_a_seventh_box(self):
        boxes = [f"box {name} safe 2 0 w" for name in "abcdefgh"]
        self.assertEqual(len(read_making(with_lines_at(1, boxes[:6], LEAST))[3]), 6)
        self.no_text(with_lines_at(1, boxes[:7], LEAST), 7)
        self.no_text(with_lines_at(1, boxes, LEAST), 7)

    def test_a_fifth_hand(self):
        hands = ["hand s 0", "hand t 0", "hand u 0", "hand x 0"]
        self.assertEqual(len(read_making("\n".join(LEAST + hands[:2]))[4]), 4)
        self.no_text("\n".join(LEAST + hands[:3]), 5)
        self.no_text("\n".join(LEAST + hands), 5)
        self.no_text("\n".join(LEAST + hands[:2] + ["jump 0", "hand u 0", "jump 0"]), 6)

    def test_a_sixty_first_row(self):
        rows = ["jump 0"] * 60
        self.assertEqual(len(read_making(with_lines_at(2, rows, LEAST + rows))[4][0][2]), 60)
        self.no_text(with_lines_at(2, rows + ["jump 0"], LEAST), 62)
        self.no_text("\n".join(LEAST + rows + ["jump 0"]), 63)
        self.no_text("\n".join(LEAST[:2] + rows + LEAST[2:] + rows + ["jump 0"]), 123)
        self.no_text(with_lines_at(2, rows + ["jump 0"] * 9, LEAST), 62)

    def test_fewer_than_two_hands(self):
        self.no_text("makes safe 2 0", 1)
        self.no_text("makes safe 2 0\nhand w 0", 2)
        self.no_text("makes safe 2 0\nhand w 0\njump 0\ndone", 4)
        self.no_text("makes safe 2 0\nbox b safe 2 0 w", 2)
        self.no_text("\n".join(["makes safe 2 0"] + [f"box {name} safe 2 0 w" for name in "abcdef"]), 7)
        self.no_text("\n".join(LINES[:8]), 8)

    def test_a_row_that_is_none_comes_ahead_of_too_few_hands(self):
        self.no_text("makes safe 2 0\nhand w 0\nnone", 2)
        self.no_text("makes safe 2 0\nnone\nhand w 0", 1)


class NoMakingTest(RefusedTest):
    def no_making_with(self, place, lines):
        for line in lines:
            self.no_making(with_line(place, line), line)

    def test_sizes_and_begins(self):
        self.no_making_with(0, ("makes steady 0 0", "makes steady 1 0", "makes steady 11 0", "makes steady 999 0",
                                "makes steady 100 0", "makes steady 2 2", "makes steady 10 10", "makes steady 2 999"))
        self.no_making_with(1, ("box b safe 0 0 w", "box b safe 1 0 w", "box b safe 11 0 w", "box b safe 999 0 w",
                                "box b safe 2 2 w", "box b safe 3 3 w", "box b safe 2 100 w"))

    def test_told_counts(self):
        self.no_making_with(3, ("hand w 401", "hand w 500", "hand w 999"))
        self.no_making_with(8, ("hand r 401", "hand r 999"))

    def test_targets(self):
        self.no_making_with(7, ("jump 5", "jump 9", "jump 10", "jump 60", "jump 100", "jump 999"))
        self.no_making_with(4, ("unless 5 v", "unless 61 v", "unless 999 v"))
        self.no_making_with(11, ("unless 5 x", "unless 100 x"))

    def test_hands_of_boxes(self):
        self.no_making_with(1, ("box b safe 2 0 s", "box b safe 2 0 b", "box b safe 2 0 not"))

    def test_a_name_twice(self):
        self.no_making_with(2, ("box b whole 3 2 r", "box b safe 2 0 w"))
        self.no_making_with(8, ("hand w 20",))
        self.no_making("makes safe 2 0\nhand w 0\nhand w 0")
        self.no_making("makes safe 2 0\nhand w 0\nhand r 0\nhand r 0")
        self.no_making("makes safe 2 0\nhand w 0\nhand r 0\nhand s 0\nhand w 0")

    def test_puts_and_gets(self):
        self.no_making_with(5, ("put c v", "put d v", "put w v", "get x d"))
        self.no_making_with(10, ("put b 1", "put d 1"))
        self.no_making_with(9, ("get x d", "get x x", "get b c\nget x r"))

    def test_endings(self):
        self.no_making_with(7, ("tell 1", "tell v"))
        self.no_making_with(12, ("done",))

    def test_v(self):
        self.no_making_with(12, ("tell v", "tell + x v", "tell not not v"))
        self.no_making_with(11, ("unless 3 v",))
        self.no_making_with(10, ("put c v", "let x v"))
        self.no_making_with(6, ("let v 1", "let v v", "get v b"))
        self.no_making_with(9, ("let v 1", "get v b"))

    def test_variables_called_not_and_or(self):
        for word in ("not", "and", "or"):
            self.no_making_with(6, (f"let {word} 1", f"get {word} b"))
            self.no_making_with(9, (f"let {word} x", f"get {word} b"))

    def test_boxes_and_hands_may_be_called_so(self):
        for word in ("not", "and", "or"):
            text = f"makes safe 2 0\nbox {word} safe 2 0 {word}\nhand {word} 0\nput {word} v\nhand r 0\nget x {word}"
            self.assertEqual(read_making(text)[4][0], (word, 0, (("put", word, ("var", "v")),)))

    def test_expressions_six_deep_and_deeper(self):
        for place, head, most in ((5, "put b", 198), (6, "let old", 198), (4, "unless 3", 198), (12, "tell", 199)):
            self.assertEqual(len(read_making(with_line(place, f"{head} not not not not 1"))), 5)
            for words in (["not"] * 5 + ["1"], "+ + + + + 1 2 3 4 5 6".split(), "- 1 - 2 - 3 - 4 - 5 6".split(),
                          ["not"] * (most - 1) + ["1"], ["+"] * 98 + ["1"] * 99, ["or", "1"] * 98 + ["x"]):
                self.no_making(with_line(place, f"{head} {' '.join(words)}"), (head, len(words)))

    def test_deep_ones_that_are_no_expressions(self):
        for place, head in ((5, "put b"), (12, "tell")):
            for words in (["not"] * 190, ["+"] * 98 + ["1"] * 98, ["1"] * 190, ["+"] * 98 + ["1"] * 100):
                self.no_text(with_line(place, f"{head} {' '.join(words)}"), place, (head, len(words)))

    def test_no_text_comes_ahead_where_both_are_told(self):
        self.no_text(with_line(0, "makes steady 1 9") + "\nnone", len(LINES))
        self.no_text("makes safe 1 0\nhand w 999", 2)
        self.no_text("makes safe 1 0\nbox b safe 99 0 x\nhand w 0\nput c 1\nhand w 0\ntell", 5)


if __name__ == "__main__":
    unittest.main()
