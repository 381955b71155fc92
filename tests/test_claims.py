"""Point 8: what the readers of a safe or steady box may still tell."""

import itertools
import unittest

from samples import watched
from strongboxes.claims import claim_begun, claim_reads, claim_told, claim_writes, claim_written

WEAK = ("safe", "steady")


def worths_of(choices):
    """Every sorted tuple of unlike worths, and None."""
    tuples = [None]
    for many in range(len(choices) + 1):
        tuples.extend(itertools.combinations(choices, many))
    return tuples


class BegunTest(unittest.TestCase):
    def test_at_first(self):
        for kind in WEAK:
            for readers in (1, 2, 3):
                for size, begin in ((2, 0), (2, 1), (10, 9)):
                    with self.subTest(kind=kind, readers=readers, begin=begin):
                        claim = claim_begun(watched(kind, size, begin, readers))
                        self.assertEqual(claim, (begin, -1, (None,) * readers))

    def test_the_name_of_the_argument(self):
        self.assertEqual(claim_begun(making=watched("safe")), (0, -1, (None,)))


class WritingTest(unittest.TestCase):
    def test_begins_beside_no_reading(self):
        for kind in WEAK:
            self.assertEqual(claim_writes(watched(kind, 3, 1), (1, -1, (None,)), 2), (1, 2, (None,)))
            self.assertEqual(claim_writes(watched(kind, 3, 1), (1, -1, (None,)), 1), (1, 1, (None,)))

    def test_begins_beside_readings_of_a_steady_box(self):
        making = watched("steady", 5, 0, 3)
        for worth, told in ((0, (0, 1, 3)), (1, (1, 3)), (2, (1, 2, 3)), (3, (1, 3)), (4, (1, 3, 4))):
            claim = (1, -1, ((1, 3), None, ()))
            self.assertEqual(claim_writes(making, claim, worth), (1, worth, (told, None, (worth,))))

    def test_what_a_reading_may_tell_is_sorted(self):
        making = watched("steady", 10, 8)
        for worths in itertools.permutations((0, 1, 8, 9), 3):
            claim = (8, -1, ((8,),))
            for worth in worths:
                claim = claim_written(making, claim_writes(making, claim, worth))
            self.assertEqual(claim, (worths[2], -1, (tuple(sorted({8, *worths})),)))
            claim = claim_reads(making, (worths[0], worths[1], (None,)), 0)
            self.assertEqual(claim[2], (tuple(sorted(worths[:2])),))

    def test_begins_beside_readings_of_a_safe_box(self):
        making = watched("safe", 5, 0, 3)
        for worth in range(5):
            claim = (1, -1, ((1, 3), None, ()))
            told = claim_writes(making, claim, worth)
            self.assertEqual(told, (1, worth, ((0, 1, 2, 3, 4), None, (0, 1, 2, 3, 4))))

    def test_begins_with_the_worth_that_is_there(self):
        self.assertEqual(claim_writes(watched("steady", 3), (0, -1, ((0,),)), 0), (0, 0, ((0,),)))
        self.assertEqual(claim_writes(watched("safe", 3), (0, -1, ((0,),)), 0), (0, 0, ((0, 1, 2),)))

    def test_the_worths_are_those_of_the_made_box(self):
        for size in range(2, 11):
            told = claim_writes(watched("safe", size), (0, -1, ((0,),)), 1)
            self.assertEqual(told, (0, 1, (tuple(range(size)),)))

    def test_ends(self):
        for kind in WEAK:
            making = watched(kind, 4, 0, 3)
            claim = (0, 3, ((0, 3), None, (1,)))
            self.assertEqual(claim_written(making, claim), (3, -1, ((0, 3), None, (1,))))
            self.assertEqual(claim_written(making, (2, 2, (None, (), None))), (2, -1, (None, (), None)))


class ReadingTest(unittest.TestCase):
    def test_begins_beside_no_writing(self):
        for kind in WEAK:
            making = watched(kind, 3, 0, 3)
            self.assertEqual(claim_reads(making, (2, -1, (None, None, None)), 0), (2, -1, ((2,), None, None)))
            self.assertEqual(claim_reads(making, (2, -1, (None, None, (0,))), 1), (2, -1, (None, (2,), (0,))))
            self.assertEqual(claim_reads(making, (0, -1, ((1,), (1, 2), None)), 2), (0, -1, ((1,), (1, 2), (0,))))

    def test_begins_beside_a_writing_of_a_steady_box(self):
        making = watched("steady", 4, 0, 2)
        for worth in range(4):
            for coming in range(4):
                told = tuple(sorted({worth, coming}))
                claim = (worth, coming, ((3,), None))
                self.assertEqual(claim_reads(making, claim, 1), (worth, coming, ((3,), told)))

    def test_begins_beside_a_writing_of_a_safe_box(self):
        making = watched("safe", 4, 0, 2)
        for worth in range(4):
            for coming in range(4):
                claim = (worth, coming, (None, (3,)))
                self.assertEqual(claim_reads(making, claim, 0), (worth, coming, ((0, 1, 2, 3), (3,))))

    def test_ends_with_what_it_may_tell(self):
        for kind in WEAK:
            making = watched(kind, 4, 0, 3)
            claim = (1, 2, ((0, 2), (1,), None))
            self.assertEqual(claim_told(making, claim, 0, 0), (1, 2, (None, (1,), None)))
            self.assertEqual(claim_told(making, claim, 0, 2), (1, 2, (None, (1,), None)))
            self.assertEqual(claim_told(making, claim, 1, 1), (1, 2, ((0, 2), None, None)))

    def test_ends_with_what_it_may_not_tell(self):
        for kind in WEAK:
            making = watched(kind, 4, 0, 3)
            claim = (1, 2, ((0, 2), (1,), ()))
            for reader, worth in ((0, 1), (0, 3), (1, 0), (1, 2), (1, 3), (2, 0), (2, 1), (2, 2), (2, 3)):
                self.assertIsNone(claim_told(making, claim, reader, worth), (kind, reader, worth))


class LongerTest(unittest.TestCase):
    def claims_behind(self, making, deeds):
        """The claims at first and behind each of the deeds."""
        claims = [claim_begun(making)]
        for deed, *things in deeds:
            claims.append(deed(making, claims[-1], *things))
        return claims

    def test_steady_readings_ahead_of_beside_and_behind_writings(self):
        claims = self.claims_behind(watched("steady", 4, 3, 3), (
            (claim_reads, 0),
            (claim_writes, 1),
            (claim_reads, 1),
            (claim_written,),
            (claim_reads, 2),
            (claim_writes, 0),
            (claim_told, 1, 0),
            (claim_reads, 1),
            (claim_written,),
            (claim_told, 0, 3),
            (claim_told, 2, 1),
            (claim_told, 1, 1),
        ))
        self.assertEqual(claims, [
            (3, -1, (None, None, None)),
            (3, -1, ((3,), None, None)),
            (3, 1, ((1, 3), None, None)),
            (3, 1, ((1, 3), (1, 3), None)),
            (1, -1, ((1, 3), (1, 3), None)),
            (1, -1, ((1, 3), (1, 3), (1,))),
            (1, 0, ((0, 1, 3), (0, 1, 3), (0, 1))),
            (1, 0, ((0, 1, 3), None, (0, 1))),
            (1, 0, ((0, 1, 3), (0, 1), (0, 1))),
            (0, -1, ((0, 1, 3), (0, 1), (0, 1))),
            (0, -1, (None, (0, 1), (0, 1))),
            (0, -1, (None, (0, 1), None)),
            (0, -1, (None, None, None)),
        ])

    def test_safe_readings_ahead_of_beside_and_behind_writings(self):
        claims = self.claims_behind(watched("safe", 3, 2, 3), (
            (claim_reads, 0),
            (claim_writes, 1),
            (claim_reads, 1),
            (claim_written,),
            (claim_reads, 2),
            (claim_told, 0, 0),
            (claim_told, 1, 2),
            (claim_told, 2, 1),
        ))
        self.assertEqual(claims, [
            (2, -1, (None, None, None)),
            (2, -1, ((2,), None, None)),
            (2, 1, ((0, 1, 2), None, None)),
            (2, 1, ((0, 1, 2), (0, 1, 2), None)),
            (1, -1, ((0, 1, 2), (0, 1, 2), None)),
            (1, -1, ((0, 1, 2), (0, 1, 2), (1,))),
            (1, -1, (None, (0, 1, 2), (1,))),
            (1, -1, (None, None, (1,))),
            (1, -1, (None, None, None)),
        ])

    def test_arguments_by_their_names(self):
        making = watched("steady", 3)
        claim = claim_writes(making=making, claim=(0, -1, (None,)), worth=2)
        claim = claim_reads(making=making, claim=claim, reader=0)
        claim = claim_written(making=making, claim=claim)
        self.assertEqual(claim, (2, -1, ((0, 2),)))
        self.assertEqual(claim_told(making=making, claim=claim, reader=0, worth=0), (2, -1, (None,)))


class EveryClaimTest(unittest.TestCase):
    """Every claim of three worths and two readers, also those in which something is left out."""

    def claims(self, is_written):
        comings = (-1,) if is_written else (0, 1, 2)
        tells = worths_of((0, 1, 2))
        return [(worth, coming, pair) for worth in range(3) for coming in comings
                for pair in itertools.product(tells, tells)]

    def test_writings_begin(self):
        for claim in self.claims(True):
            for worth in range(3):
                steady = claim_writes(watched("steady", 3, 0, 2), claim, worth)
                more = tuple(None if told is None else tuple(sorted({worth, *told})) for told in claim[2])
                self.assertEqual(steady, (claim[0], worth, more))
                safe = claim_writes(watched("safe", 3, 0, 2), claim, worth)
                more = tuple(None if told is None else (0, 1, 2) for told in claim[2])
                self.assertEqual(safe, (claim[0], worth, more))

    def test_writings_end(self):
        for kind in WEAK:
            for claim in self.claims(False):
                self.assertEqual(claim_written(watched(kind, 3, 0, 2), claim), (claim[1], -1, claim[2]))

    def test_readings(self):
        for kind in WEAK:
            making = watched(kind, 3, 0, 2)
            for claim in self.claims(True) + self.claims(False):
                for reader in (0, 1):
                    self.check_reading(making, claim, reader)

    def check_reading(self, making, claim, reader):
        other = claim[2][1 - reader]
        if claim[2][reader] is None:
            told = claim_reads(making, claim, reader)
            self.assertEqual((told[:2], told[2][1 - reader]), (claim[:2], other))
            beside = {claim[0], claim[1]} if making[0] == "steady" else {0, 1, 2}
            self.assertEqual(told[2][reader], tuple(sorted(beside)) if claim[1] >= 0 else (claim[0],))
            return
        for worth in range(3):
            told = claim_told(making, claim, reader, worth)
            if worth in claim[2][reader]:
                self.assertEqual((told[:2], told[2][reader], told[2][1 - reader]), (claim[:2], None, other))
            else:
                self.assertIsNone(told)


if __name__ == "__main__":
    unittest.main()
