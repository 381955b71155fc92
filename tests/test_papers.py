"""Point 18: papers that are let by and papers that are refused."""

import copy
import random
import unittest

from plain_hands import near_making
from plain_papers import slowly_checked
from programs import STEADY_OF_BITS, STEADY_OF_SAFE, made, passed_on, with_kind
from strongboxes.errors import (
    NoEvents, NoLine, NoMaking, NoPaper, NoStep, NoText, NoUpon, StrongError, TooMany,
)
from strongboxes.papers import check_paper
from strongboxes.seek import seek
from strongboxes.stands import first_stand, stepped, steps_of

HOLD = (STEADY_OF_SAFE, passed_on("whole", "whole"), passed_on("steady", "steady"), passed_on("safe", "safe", 3))


def paper_of(making):
    word, stands = seek(making, 100000)
    assert word == "paper"
    return stands


class PapersTest(unittest.TestCase):
    def let_by(self, making, paper):
        self.assertIsNone(check_paper(making, paper))

    def refused(self, making, paper, at):
        with self.assertRaises(NoPaper) as taken:
            check_paper(making, paper)
        self.assertIs(type(taken.exception), NoPaper)
        self.assertEqual((type(taken.exception.at), taken.exception.at), (int, at))


class LetByTest(PapersTest):
    def test_what_seek_tells(self):
        for making in HOLD + (STEADY_OF_BITS, passed_on("whole", "whole", 3, 2), passed_on("steady", "steady", 2, 3)):
            self.let_by(making, paper_of(making))

    def test_turned_about_and_with_stands_twice(self):
        for making in HOLD:
            paper = paper_of(making)
            self.let_by(making, paper[::-1])
            self.let_by(making, paper + paper)
            self.let_by(making, paper[3:] + paper[:5])
            random.Random(1).shuffle(paper)
            self.let_by(making, paper)

    def test_a_paper_of_a_steady_making_is_one_of_the_safe_making(self):
        for making in (STEADY_OF_SAFE, STEADY_OF_BITS, passed_on("steady", "steady", 3)):
            self.let_by(with_kind(making, "safe"), paper_of(making))
        # The other way about the claims let too much.
        safe = with_kind(STEADY_OF_SAFE, "safe")
        self.assertEqual(slowly_checked(STEADY_OF_SAFE, paper_of(safe)), self.at_of(STEADY_OF_SAFE, paper_of(safe)))

    def at_of(self, making, paper):
        try:
            check_paper(making, paper)
        except NoPaper as refusal:
            return refusal.at
        return None

    def test_stands_to_which_no_weaving_leads(self):
        # Where three steps are told and two are needed, a count may begin at one, of either hand or both.
        making = passed_on("safe", "safe", within=3)
        paper = paper_of(making)
        longer = [self.counted(stand, hands) for stand in paper for hands in ((), (0,), (1,), (0, 1))]
        self.assertGreater(len(set(longer)), len(paper))
        self.let_by(making, longer)
        self.refused(passed_on("safe", "safe", within=2), longer, self.first_behind(longer, 2))

    def counted(self, stand, numbers):
        """A stand where the hands with these numbers, if they are in a deed, did a step more."""
        hands = [hand[:3] + (hand[3] + (number in numbers and hand[0] >= 0),) + hand[4:]
                 for number, hand in enumerate(stand[0])]
        return (tuple(hands),) + stand[1:]

    def first_behind(self, stands, count):
        """The number of the first stand at which a hand has done so many steps and has one more to do."""
        return [any(hand[3] == count for hand in stand[0]) for stand in stands].index(True)

    def test_claims_of_less_stand_for_more(self):
        making = with_kind(passed_on("steady", "whole"), "safe")
        # Those of steady are less than those of safe, and are enough.
        steady = paper_of(passed_on("steady", "whole"))
        self.assertNotEqual(steady, paper_of(making))
        self.let_by(making, steady)

    def test_tells_none_and_by_their_names(self):
        paper = paper_of(STEADY_OF_SAFE)
        self.assertIsNone(check_paper(paper=paper, making=STEADY_OF_SAFE))

    def test_the_paper_stays_as_it_was(self):
        for making in HOLD:
            paper = paper_of(making)
            before = copy.deepcopy(paper)
            check_paper(making, paper)
            self.assertEqual(paper, before)


class LeftOutTest(PapersTest):
    def test_the_first_stand(self):
        for making in HOLD:
            self.refused(making, paper_of(making)[1:], -1)
            self.refused(making, [], -1)

    def test_another_one(self):
        for making in HOLD:
            paper = paper_of(making)
            let_by = 0
            for number in range(1, len(paper), 1 + len(paper) // 40):
                less = paper[:number] + paper[number + 1:]
                at = slowly_checked(making, less)
                if at is None:
                    let_by += 1
                    self.let_by(making, less)
                else:
                    leads = [place for place, stand in enumerate(less) if paper[number] in [
                        stepped(making, stand, step)[0] for step in steps_of(making, stand)]]
                    self.assertEqual(at, leads[0])
                    self.refused(making, less, at)
            self.assertLess(let_by, len(paper) - 1)

    def test_another_one_that_a_third_one_covers(self):
        let_by = 0
        for making in (passed_on("safe", "whole"), passed_on("steady", "whole"), passed_on("whole", "whole")):
            paper = paper_of(making)
            for number in range(1, len(paper)):
                less = paper[:number] + paper[number + 1:]
                if slowly_checked(making, less) is None:
                    self.let_by(making, less)
                    let_by += 1
        self.assertGreater(let_by, 0)

    def test_all_that_is_needless(self):
        making = passed_on("whole", "whole", 2, 2)
        paper = paper_of(making)
        small = list(paper)
        for stand in paper[1:]:
            less = [other for other in small if other != stand]
            try:
                check_paper(making, less)
                small = less
            except NoPaper:
                continue
        self.assertLess(len(small), len(paper))
        self.assertIsNone(slowly_checked(making, small))


class NoListTest(PapersTest):
    def test_what_is_no_list(self):
        paper = paper_of(STEADY_OF_SAFE)
        for thing in (None, (), tuple(paper), "", "paper", 0, True, {}, dict.fromkeys(paper), set(paper), iter(paper)):
            self.refused(STEADY_OF_SAFE, thing, -1)

    def test_the_class_of_the_refusal(self):
        with self.assertRaises(StrongError) as taken:
            check_paper(STEADY_OF_SAFE, None)
        self.assertIsInstance(taken.exception, ValueError)
        for other in (NoMaking, NoText, NoEvents, NoStep, TooMany, NoUpon, NoLine):
            self.assertNotIsInstance(taken.exception, other)


class NoStandTest(PapersTest):
    def test_put_in_anywhere(self):
        for making in HOLD:
            paper = paper_of(making)
            for number in (0, 1, 5, len(paper)):
                for thing in (None, (), [], {}, 0, "stand", list(paper[0]), paper[0][:2], paper[0] + ((),)):
                    self.refused(making, paper[:number] + [thing] + paper[number:], number)

    def test_the_first_of_several(self):
        paper = paper_of(STEADY_OF_SAFE)
        self.refused(STEADY_OF_SAFE, paper[:4] + [None] + paper[4:9] + [None], 4)

    def test_behind_what_does_not_cover_the_first_stand(self):
        paper = paper_of(STEADY_OF_SAFE)
        self.refused(STEADY_OF_SAFE, [None], -1)
        self.refused(STEADY_OF_SAFE, paper[1:] + [None], -1)
        self.refused(STEADY_OF_SAFE, [list(paper[0])] + paper[1:], -1)

    def test_ahead_of_what_is_not_closed(self):
        paper = paper_of(STEADY_OF_SAFE)
        self.refused(STEADY_OF_SAFE, paper[:1], 0)
        self.refused(STEADY_OF_SAFE, paper[:1] + [None], 1)
        self.refused(STEADY_OF_SAFE, paper[:5] + [None], 5)

    def test_a_stand_of_another_making(self):
        one, other = passed_on("steady", "steady"), passed_on("steady", "steady", 2, 2)
        self.refused(one, paper_of(one) + [first_stand(other)], len(paper_of(one)))
        self.refused(one, paper_of(other), -1)


class BreaksTest(PapersTest):
    def test_the_first_from_which_a_step_breaks(self):
        making = passed_on("steady", "safe")
        weaving = seek(making, 1000)[1]
        paper = [first_stand(making)]
        # All that can be met with a step more each time, up to the break.
        for _ in weaving:
            for stand in list(paper):
                for step in steps_of(making, stand):
                    later = stepped(making, stand, step)[0]
                    if later is not None and later not in paper:
                        paper.append(later)
        at = slowly_checked(making, paper)
        self.assertIsNotNone(at)
        self.refused(making, paper, at)

    def test_whatever_is_put_down_of_a_making_that_breaks(self):
        making = made("makes safe 2 0, hand w 0, hand r 0, tell 0")
        stands = [((hand, hand), (), claim) for hand in [(-1, None, 0, 0, ())]
                  for claim in ((0, -1, (None,)), (1, -1, (None,)))]
        self.refused(making, stands, 1)
        self.refused(making, stands[:1], 0)
        self.refused(making, stands[::-1], 0)
        self.refused(making, stands[1:], -1)

    def test_a_long_one(self):
        making = passed_on("safe", "safe", within=1)
        paper = paper_of(passed_on("safe", "safe", within=2))
        at = slowly_checked(making, paper)
        self.refused(making, paper, at)

    def test_papers_of_other_makings_and_with_changes_by_chance(self):
        chance = random.Random(18)
        told = {}
        for _ in range(150):
            making = near_making(chance)
            try:
                word, stands = seek(making, 150)
            except TooMany:
                continue
            if word == "break":
                continue
            for _ in range(8):
                paper = list(stands)
                for _ in range(chance.choice((0, 1, 2))):
                    self.change(paper, chance)
                at = slowly_checked(making, paper)
                if at is None:
                    self.let_by(making, paper)
                else:
                    self.refused(making, paper, at)
                key = "let by" if at is None else "first" if at < 0 else "later"
                told[key] = told.get(key, 0) + 1
        self.assertGreater(min(told.values()), 10, told)
        self.assertEqual(len(told), 3)

    def change(self, paper, chance):
        place = chance.randrange(len(paper))
        what = chance.randrange(4)
        if what == 0:
            paper.pop(place if chance.random() < 0.7 else 0)
        elif what == 1:
            paper.insert(place, paper[chance.randrange(len(paper))])
        elif what == 2:
            hands, boxes, claim = paper[place]
            paper[place] = (hands, boxes, self.other_claim(claim, chance))
        else:
            hands, boxes, claim = paper[place]
            hand = hands[-1][:3] + (hands[-1][3] + 1,) + hands[-1][4:]
            paper.insert(place, (hands[:-1] + (hand,), boxes, claim))

    def other_claim(self, claim, chance):
        """A claim of less, or of other cases."""
        if claim and isinstance(claim[0], int):
            tells = tuple(part and part[chance.randrange(2):] for part in claim[2])
            return claim[:2] + (tells,)
        return claim[chance.randrange(2):]


if __name__ == "__main__":
    unittest.main()
