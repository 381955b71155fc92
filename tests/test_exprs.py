"""Point 4: the number of an expression."""

import copy
import unittest

from samples import nested
from strongboxes.exprs import number_of

DIGITS = range(10)


def pair(word, first, second):
    return (word, ("num", first), ("num", second))


class NumberTest(unittest.TestCase):
    def told(self, expression, numbers, expected):
        with self.subTest(expression=expression, numbers=numbers):
            number = number_of(expression, numbers)
            self.assertEqual(number, expected)
            self.assertIs(type(number), int)

    def test_num(self):
        for digit in DIGITS:
            self.told(("num", digit), {}, digit)

    def test_var(self):
        for digit in DIGITS:
            self.told(("var", "x"), {"x": digit, "y": 9 - digit}, digit)

    def test_var_of_any_name(self):
        numbers = {"v": 1, "num": 2, "var": 3, "put": 4, "abcdefgh": 5, "z": 6}
        for name in numbers:
            self.told(("var", name), numbers, numbers[name])

    def test_not(self):
        self.told(("not", ("num", 0)), {}, 1)
        for digit in range(1, 10):
            self.told(("not", ("num", digit)), {}, 0)

    def test_sum_at_its_edges(self):
        for first, second, expected in (
                (0, 0, 0), (2, 3, 5), (4, 4, 8), (4, 5, 9), (5, 5, 9), (9, 0, 9), (9, 1, 9), (9, 9, 9)):
            self.told(pair("+", first, second), {}, expected)

    def test_difference_at_its_edges(self):
        for first, second, expected in (
                (0, 0, 0), (5, 3, 2), (3, 2, 1), (3, 3, 0), (3, 4, 0), (0, 9, 0), (9, 0, 9), (9, 9, 0)):
            self.told(pair("-", first, second), {}, expected)

    def test_equal_and_less(self):
        for first in DIGITS:
            self.told(pair("=", first, first), {}, 1)
            self.told(pair("<", first, first), {}, 0)
            for second in range(first):
                self.told(pair("=", first, second), {}, 0)
                self.told(pair("=", second, first), {}, 0)
                self.told(pair("<", first, second), {}, 0)
                self.told(pair("<", second, first), {}, 1)

    def test_and(self):
        for first, second, expected in ((0, 0, 0), (0, 1, 0), (1, 0, 0), (1, 1, 1),
                                        (0, 9, 0), (9, 0, 0), (9, 2, 1), (2, 9, 1), (4, 3, 1)):
            self.told(pair("and", first, second), {}, expected)

    def test_or(self):
        for first, second, expected in ((0, 0, 0), (0, 1, 1), (1, 0, 1), (1, 1, 1),
                                        (0, 9, 1), (9, 0, 1), (9, 2, 1), (2, 9, 1), (4, 3, 1)):
            self.told(pair("or", first, second), {}, expected)

    def test_expressions_within_others(self):
        x, y = ("var", "x"), ("var", "y")
        self.told(("-", ("+", x, y), ("num", 2)), {"x": 8, "y": 8}, 7)
        self.told(("+", ("-", x, y), y), {"x": 2, "y": 6}, 6)
        self.told(("=", ("not", x), ("<", x, y)), {"x": 0, "y": 6}, 1)
        self.told(("+", ("=", x, x), ("or", x, y)), {"x": 3, "y": 0}, 2)
        self.told(("and", ("or", ("num", 0), x), ("not", y)), {"x": 5, "y": 0}, 1)
        self.told(("-", ("num", 9), ("-", ("num", 9), ("-", ("num", 9), ("-", x, y)))), {"x": 7, "y": 3}, 5)

    def test_the_same_expression_by_other_numbers(self):
        expression = ("-", ("+", ("var", "x"), ("num", 3)), ("var", "y"))
        self.told(expression, {"x": 1, "y": 2}, 2)
        self.told(expression, {"x": 9, "y": 2}, 7)
        self.told(expression, {"x": 1, "y": 8}, 0)
        self.told(expression, {"x": 1, "y": 2}, 2)

    def test_deep_ones(self):
        self.told(nested(5), {"x": 7}, 1)
        self.told(nested(4), {"x": 7}, 0)
        # Of depth nothing is refused here; somewhat beyond the bound it is told as within.
        self.told(nested(6), {"x": 7}, 0)
        self.told(nested(9), {"x": 0}, 0)


class HandedInTest(unittest.TestCase):
    def test_the_dict_stays_as_it_was(self):
        for word in ("+", "-", "=", "<", "and", "or"):
            numbers = {"x": 1, "y": 9}
            before = copy.deepcopy(numbers)
            number_of((word, ("not", ("var", "x")), ("var", "y")), numbers)
            self.assertEqual(list(numbers.items()), list(before.items()))

    def test_a_later_change_of_the_dict_is_seen_by_later_calls_alone(self):
        numbers = {"x": 1}
        told = number_of(("var", "x"), numbers)
        numbers["x"] = 5
        self.assertEqual((told, number_of(("var", "x"), numbers)), (1, 5))

    def test_arguments_by_their_names(self):
        self.assertEqual(number_of(expression=("var", "x"), numbers={"x": 4}), 4)
        self.assertEqual(number_of(numbers={"x": 4}, expression=("not", ("var", "x"))), 0)
        self.assertEqual(number_of(("num", 3), numbers={}), 3)


if __name__ == "__main__":
    unittest.main()
