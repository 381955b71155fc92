"""Point 9: what the readers of a whole box may still tell."""

import itertools
import unittest

from samples import watched
from strongboxes.claims import claim_begun, claim_reads, claim_told, claim_writes, claim_written


def leads(case, later):
    """Whether one moment leads from a case to another one."""
    if (case[1], later[1]) == (later[0], -2) and case[1] >= 0:
        return case[2] == later[2]
    unlike = [pair for pair in zip(case[2], later[2]) if pair[0] != pair[1]]
    return case[:2] == later[:2] and unlike == [(-2, case[0])]


class Plain:
    """Claims as sets of cases, closed by trying every case of the box there is."""

    def __init__(self, size, begin, readers):
        comings = tuple(range(-2, size))
        tells = itertools.product(comings, repeat=readers)
        cases = list(itertools.product(range(size), comings, tells))
        self.later = {case: [other for other in cases if leads(case, other)] for case in cases}
        self.begin = (begin, -1, (-1,) * readers)

    def closed(self, cases):
        found = set(cases)
        while True:
            more = found | {later for case in found for later in self.later[case]}
            if more == found:
                return tuple(sorted(found))
            found = more

    def reads(self, claim, reader):
        return self.closed((worth, coming, tells[:reader] + (-2,) + tells[reader + 1:])
                           for worth, coming, tells in claim)

    def told(self, claim, reader, told):
        left = self.closed((worth, coming, tells[:reader] + (-1,) + tells[reader + 1:])
                           for worth, coming, tells in claim if tells[reader] == told)
        return left or None

    def writes(self, claim, coming):
        return self.closed((worth, coming, tells) for worth, _, tells in claim)

    def written(self, claim):
        return self.closed((worth, -1, tells) for worth, coming, tells in claim if coming == -2)


def going(claim):
    """For the writer and each reader, whether it does a deed; all cases of a claim that came about agree on it."""
    _, coming, tells = claim[0]
    return [coming != -1] + [told != -1 for told in tells]


class DeedsTest(unittest.TestCase):
    def test_at_first(self):
        for readers in (1, 2, 3):
            for size, begin in ((2, 0), (2, 1), (10, 9)):
                claim = claim_begun(watched("whole", size, begin, readers))
                self.assertEqual(claim, ((begin, -1, (-1,) * readers),))

    def test_a_writing_by_itself(self):
        making = watched("whole", 3, 0)
        claim = claim_writes(making, ((0, -1, (-1,)),), 2)
        self.assertEqual(claim, ((0, 2, (-1,)), (2, -2, (-1,))))
        self.assertEqual(claim_written(making, claim), ((2, -1, (-1,)),))

    def test_a_writing_of_the_worth_that_is_there(self):
        making = watched("whole", 3, 0)
        claim = claim_writes(making, ((0, -1, (-1,)),), 0)
        self.assertEqual(claim, ((0, -2, (-1,)), (0, 0, (-1,))))
        self.assertEqual(claim_written(making, claim), ((0, -1, (-1,)),))

    def test_a_reading_by_itself(self):
        making = watched("whole", 3, 1)
        claim = claim_reads(making, ((1, -1, (-1,)),), 0)
        self.assertEqual(claim, ((1, -1, (-2,)), (1, -1, (1,))))
        self.assertEqual(claim_told(making, claim, 0, 1), ((1, -1, (-1,)),))
        self.assertIsNone(claim_told(making, claim, 0, 0))
        self.assertIsNone(claim_told(making, claim, 0, 2))

    def test_a_reading_beside_a_writing(self):
        making = watched("whole", 3, 0)
        claim = claim_reads(making, claim_writes(making, claim_begun(making), 1), 0)
        self.assertEqual(claim, ((0, 1, (-2,)), (0, 1, (0,)), (1, -2, (-2,)), (1, -2, (0,)), (1, -2, (1,))))
        self.assertEqual(claim_told(making, claim, 0, 0), ((0, 1, (-1,)), (1, -2, (-1,))))
        self.assertEqual(claim_told(making, claim, 0, 1), ((1, -2, (-1,)),))
        self.assertIsNone(claim_told(making, claim, 0, 2))
        self.assertEqual(claim_written(making, claim), ((1, -1, (-2,)), (1, -1, (0,)), (1, -1, (1,))))

    def test_a_writing_that_begins_beside_a_reading(self):
        making = watched("whole", 2, 0)
        claim = claim_writes(making, claim_reads(making, claim_begun(making), 0), 1)
        self.assertEqual(claim, ((0, 1, (-2,)), (0, 1, (0,)), (1, -2, (-2,)), (1, -2, (0,)), (1, -2, (1,))))

    def test_the_later_reading_may_not_tell_the_older_worth(self):
        making = watched("whole", 2, 0, 2)
        claim = claim_reads(making, claim_writes(making, claim_begun(making), 1), 0)
        newer = claim_reads(making, claim_told(making, claim, 0, 1), 1)
        self.assertEqual(newer, ((1, -2, (-1, -2)), (1, -2, (-1, 1))))
        self.assertIsNone(claim_told(making, newer, 1, 0))
        older = claim_reads(making, claim_told(making, claim, 0, 0), 1)
        self.assertEqual(claim_told(making, older, 1, 0), ((0, 1, (-1, -1)), (1, -2, (-1, -1))))
        self.assertEqual(claim_told(making, older, 1, 1), ((1, -2, (-1, -1)),))

    def test_three_readers(self):
        making = watched("whole", 2, 0, 3)
        claim = claim_begun(making)
        for reader in (2, 0, 1):
            claim = claim_reads(making, claim, reader)
        self.assertEqual(claim, tuple((0, -1, tells) for tells in itertools.product((-2, 0), repeat=3)))

    def test_arguments_by_their_names(self):
        making = watched("whole", 2)
        claim = claim_begun(making=making)
        claim = claim_writes(making=making, claim=claim, worth=1)
        claim = claim_reads(making=making, claim=claim, reader=0)
        claim = claim_written(making=making, claim=claim)
        self.assertEqual(claim_told(making=making, claim=claim, reader=0, worth=0), ((1, -1, (-1,)),))


class LeftOutTest(unittest.TestCase):
    def test_no_case_at_all(self):
        making = watched("whole", 2, 0, 2)
        self.assertEqual(claim_writes(making, (), 1), ())
        self.assertEqual(claim_written(making, ()), ())
        self.assertEqual(claim_reads(making, (), 1), ())
        self.assertIsNone(claim_told(making, (), 1, 0))

    def test_a_writing_that_had_its_moment_in_no_case(self):
        self.assertEqual(claim_written(watched("whole"), ((0, 1, (-1,)),)), ())

    def test_a_reading_that_had_its_moment_in_no_case(self):
        self.assertIsNone(claim_told(watched("whole"), ((0, -1, (-2,)),), 0, 0))

    def test_claims_that_are_not_closed_are_closed_behind_a_deed(self):
        making = watched("whole", 3, 0, 2)
        self.assertEqual(claim_writes(making, ((0, -1, (-2, -1)),), 2), (
            (0, 2, (-2, -1)), (0, 2, (0, -1)), (2, -2, (-2, -1)), (2, -2, (0, -1)), (2, -2, (2, -1))))
        self.assertEqual(claim_told(making, ((0, -1, (0, -2)),), 0, 0), ((0, -1, (-1, -2)), (0, -1, (-1, 0))))
        self.assertEqual(claim_written(making, ((1, -2, (-2, -1)),)), ((1, -1, (-2, -1)), (1, -1, (1, -1))))


class EveryDeedTest(unittest.TestCase):
    """All deeds from all claims that come about, held against claims that are made otherwise."""

    def claims_behind(self, making, plain, claim):
        """The claims behind all deeds that can be, each as the plain one tells it."""
        goes = going(claim)
        deeds = []
        if goes[0]:
            deeds.append((claim_written(making, claim), plain.written(claim)))
        else:
            for worth in range(making[1]):
                deeds.append((claim_writes(making, claim, worth), plain.writes(claim, worth)))
        for reader, reads in enumerate(goes[1:]):
            if not reads:
                deeds.append((claim_reads(making, claim, reader), plain.reads(claim, reader)))
                continue
            for worth in range(making[1]):
                deeds.append((claim_told(making, claim, reader, worth), plain.told(claim, reader, worth)))
        for told, asked in deeds:
            self.assertEqual(told, asked, claim)
        return [told for told, _ in deeds if told]

    def all_claims(self, making, plain):
        found = {claim_begun(making): True}
        waiting = list(found)
        while waiting:
            for claim in self.claims_behind(making, plain, waiting.pop()):
                if claim not in found:
                    found[claim] = True
                    waiting.append(claim)
        return list(found)

    def check(self, size, begin, readers, most):
        making, plain = watched("whole", size, begin, readers), Plain(size, begin, readers)
        self.assertEqual(claim_begun(making), (plain.begin,))
        claims = self.all_claims(making, plain)
        for claim in claims[:most]:
            for place in range(len(claim)):
                if len(claim) > 1:
                    self.claims_behind(making, plain, claim[:place] + claim[place + 1:])
                self.claims_behind(making, plain, claim[place:place + 1])
        return len(claims)

    def test_one_reader(self):
        self.assertGreater(self.check(2, 1, 1, 1000), 10)
        self.assertGreater(self.check(3, 0, 1, 1000), 20)

    def test_two_readers(self):
        self.assertGreater(self.check(2, 0, 2, 200), 50)

    def test_three_readers(self):
        making, plain = watched("whole", 2, 1, 3), Plain(2, 1, 3)
        claim = claim_begun(making)
        for deed in range(30):
            behind = self.claims_behind(making, plain, claim)
            claim = behind[(deed * 7 + 3) % len(behind)]


if __name__ == "__main__":
    unittest.main()
