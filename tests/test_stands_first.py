"""Point 11: the first stand."""

import unittest

from programs import made
from samples import making_of
from strongboxes.stands import first_stand

REST = (-1, None, 0, 0, ())


class FirstStandTest(unittest.TestCase):
    def test_written_out(self):
        making = made(
            "makes steady 4 3, box b safe 2 1 w, box a steady 10 9 r, box c whole 5 2 w",
            "hand w 400, get x b, let y + v z, put b 0",
            "hand r 0, tell 0",
        )
        self.assertEqual(first_stand(making), (
            ((-1, None, 0, 0, (0, 0, 0)), (-1, None, 0, 0, ())),
            ((1, -1), (9, -1), (2, -1)),
            (3, -1, (None,)),
        ))

    def test_boxes_from_none_to_six(self):
        boxes = tuple((name, kind, size, begin, "w") for name, kind, size, begin in (
            ("f", "safe", 2, 0), ("e", "steady", 3, 2), ("d", "whole", 10, 9), ("c", "safe", 4, 1),
            ("b", "steady", 5, 4), ("a", "whole", 6, 0)))
        begins = ((0, -1), (2, -1), (9, -1), (1, -1), (4, -1), (0, -1))
        for count in range(7):
            making = making_of(boxes=boxes[:count], writer=(), reader=())
            self.assertEqual(first_stand(making), ((REST, REST), begins[:count], (0, -1, (None,))))

    def test_hands_from_two_to_four_and_claims_of_each_kind(self):
        for kind in ("safe", "steady", "whole"):
            for begin in range(3):
                for count in (2, 3, 4):
                    making = (kind, 3, begin, (), tuple((name, 7, ()) for name in "abcd"[:count]))
                    readers = count - 1
                    claim = (begin, -1, (None,) * readers)
                    if kind == "whole":
                        claim = ((begin, -1, (-1,) * readers),)
                    self.assertEqual(first_stand(making), ((REST,) * count, (), claim))

    def numbers(self, rows, reader=""):
        """How many noughts the writer and the reader have."""
        hands = ["hand w 9"] + ([rows] if rows else []) + ["hand r 9"] + ([reader] if reader else [])
        stand = first_stand(made("makes safe 2 0, box b safe 2 0 w", *hands))
        for hand in stand[0]:
            self.assertEqual(hand[:4], (-1, None, 0, 0))
            self.assertEqual(set(hand[4]) - {0}, set())
            self.assertIsInstance(hand[4], tuple)
        return tuple(len(hand[4]) for hand in stand[0])

    def test_a_number_for_each_variable_but_v(self):
        self.assertEqual(self.numbers(""), (0, 0))
        self.assertEqual(self.numbers("put b v"), (0, 0))
        self.assertEqual(self.numbers("let x v"), (1, 0))
        self.assertEqual(self.numbers("get x b"), (1, 0))
        self.assertEqual(self.numbers("put b x"), (1, 0))
        self.assertEqual(self.numbers("unless 0 < x not + y v"), (2, 0))
        self.assertEqual(self.numbers("let x x, get x b, put b x, unless 0 x"), (1, 0))
        self.assertEqual(self.numbers("let p q, get s b, put b t, unless 0 u", "tell 1"), (5, 0))
        self.assertEqual(self.numbers("", "tell x"), (0, 1))
        self.assertEqual(self.numbers("let x v", "get y b, let z 1, unless 0 x, tell w"), (1, 4))
        self.assertEqual(self.numbers("done, let x 1"), (1, 0))

    def test_a_name_of_a_box_is_no_variable(self):
        self.assertEqual(self.numbers("put b v, get x b", "get y b, jump 0"), (1, 1))
        self.assertEqual(self.numbers("let b v, put b b"), (1, 0))

    def test_by_its_name_and_each_time_alike(self):
        making = making_of()
        self.assertEqual(first_stand(making=making), first_stand(making))


if __name__ == "__main__":
    unittest.main()
