"""Point 17: claims that cover others."""

import itertools
import unittest

from programs import passed_on
from strongboxes.papers import covers


class CoversTest(unittest.TestCase):
    def told(self, kind, one, other, asked, size=3, readers=2):
        with self.subTest(kind=kind, one=one, other=other):
            told = covers(passed_on(kind, "safe", size, readers), one, other)
            self.assertIs(type(told), bool)
            self.assertEqual(told, asked)


class WeakTest(CoversTest):
    def both(self, one, other, asked):
        for kind in ("safe", "steady"):
            self.told(kind, one, other, asked)

    def test_a_claim_covers_itself(self):
        for claim in ((0, -1, (None, None)), (2, 1, ((0, 1), None)), (2, 1, ((), (0, 1, 2)))):
            self.both(claim, claim, True)

    def test_another_worth(self):
        self.both((0, -1, (None, None)), (1, -1, (None, None)), False)
        self.both((1, 2, ((1,), ())), (0, 2, ((1,), ())), False)

    def test_another_coming(self):
        self.both((0, 1, (None, None)), (0, 2, (None, None)), False)
        self.both((0, -1, (None, None)), (0, 2, (None, None)), False)
        self.both((0, 1, (None, None)), (0, -1, (None, None)), False)

    def test_none_beside_worths(self):
        for worths in ((), (0,), (0, 1, 2)):
            self.both((0, 1, (None, None)), (0, 1, (worths, None)), False)
            self.both((0, 1, (worths, None)), (0, 1, (None, None)), False)
            self.both((0, 1, (None, worths)), (0, 1, (worths, None)), False)
            self.both((0, 1, (None, worths)), (0, 1, (None, worths)), True)

    def test_less_and_more(self):
        every = [worths for count in range(4) for worths in itertools.combinations(range(3), count)]
        for one in every:
            for other in every:
                asked = set(one) <= set(other)
                self.both((0, -1, (one, None)), (0, -1, (other, None)), asked)
                self.both((0, 1, ((1,), one)), (0, 1, ((1, 2), other)), asked)
                self.both((0, 1, (one, (1, 2))), (0, 1, (other, (1,))), False)

    def test_one_reader_and_three(self):
        self.told("steady", (0, -1, ((0,),)), (0, -1, ((0, 1),)), True, readers=1)
        self.told("steady", (0, -1, (None, (0,), (1,))), (0, -1, (None, (0, 1), (1,))), True, readers=3)
        self.told("steady", (0, -1, (None, (0,), (1,))), (0, -1, (None, (0, 1), (0, 2))), False, readers=3)


class WholeTest(CoversTest):
    CASES = ((0, -1, (-1, 0)), (0, -1, (-1, 1)), (1, -1, (-1, -2)), (1, -1, (-1, 0)))

    def test_cases_left_out_and_put_in(self):
        every = [tuple(sorted(cases)) for count in range(5) for cases in itertools.combinations(self.CASES, count)]
        for one in every:
            for other in every:
                self.told("whole", one, other, set(one) <= set(other))

    def test_none_covers_all(self):
        for claim in ((), self.CASES[:1], tuple(sorted(self.CASES)), ((2, 1, (-2, -2)),)):
            self.told("whole", (), claim, True)
            self.told("whole", claim, (), claim == ())
            self.told("whole", claim, claim, True)

    def test_each_part_of_a_case(self):
        for other in ((1, 1, (-1, 0)), (0, 2, (-1, 0)), (0, -2, (-1, 0)), (0, 1, (-1, 1)), (0, 1, (-1, -2))):
            self.told("whole", ((0, 1, (-1, 0)),), (other,), False)


class NamesTest(unittest.TestCase):
    def test_by_their_names(self):
        making = passed_on("steady", "safe")
        self.assertIs(covers(other=(0, -1, ((0, 1),)), one=(0, -1, ((0,),)), making=making), True)
        self.assertIs(covers(one=(0, -1, ((0, 1),)), other=(0, -1, ((0,),)), making=making), False)


if __name__ == "__main__":
    unittest.main()
