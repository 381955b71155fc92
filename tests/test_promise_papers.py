"""Point 3 over the whole: EVERY WEAVING, ONE OF BOTH and UPON."""

import random
import unittest

from plain_hands import near_making, some_making, some_weaving
from programs import STEADY_OF_BITS, STEADY_OF_SAFE, made, passed_on, with_kind
from strongboxes.claims import claim_begun
from strongboxes.errors import NoPaper, NoUpon, TooMany
from strongboxes.judge import judged
from strongboxes.makings import check_making
from strongboxes.papers import check_paper
from strongboxes.runner import walked
from strongboxes.seek import seek
from strongboxes.stands import first_stand, stepped, steps_of
from strongboxes.upon import put_upon


def sought(making, most):
    try:
        return seek(making, most)
    except TooMany:
        return ("too many", None)


def lets_by(making, paper):
    try:
        check_paper(making, paper)
    except NoPaper:
        return False
    return True


class OneOfBothTest(unittest.TestCase):
    def test_a_paper_that_is_let_by_or_a_weaving_that_breaks(self):
        chance = random.Random(41)
        told = {}
        for _ in range(300):
            making = chance.choice((near_making, near_making, some_making))(chance)
            word, things = sought(making, 1500)
            told[word] = told.get(word, 0) + 1
            if word == "paper":
                self.assertIsNone(check_paper(making, things))
            elif word == "break":
                self.assertIsNotNone(walked(making, things)["broken"])
                self.assertIsNone(walked(making, things[:-1])["broken"])
        self.assertGreater(min(told["paper"], told["break"]), 50, told)


class EveryWeavingTest(unittest.TestCase):
    def test_no_long_weaving_breaks_where_a_paper_is_let_by(self):
        chance = random.Random(42)
        for making in (STEADY_OF_SAFE, STEADY_OF_BITS, passed_on("whole", "whole", 3, 2), passed_on("safe", "safe", 4),
                       passed_on("steady", "steady", 2, 3)):
            check_paper(making, seek(making, 100000)[1])
            for _ in range(20):
                weaving = some_weaving(making, 300, chance)
                told = walked(making, weaving)
                self.assertIsNone(told["broken"])
                self.assertTrue(judged(making, told["events"]))

    def test_no_paper_of_a_making_that_breaks_is_let_by(self):
        chance = random.Random(43)
        tried = 0
        for _ in range(150):
            making = chance.choice((near_making, some_making))(chance)
            if sought(making, 1000)[0] == "break":
                stands = self.stands_met(making, 120)
                for paper in self.papers_from(stands, chance):
                    self.assertFalse(lets_by(making, paper), making)
                    tried += 1
        self.assertGreater(tried, 200)

    def stands_met(self, making, most):
        """Stands that can be met, those behind breaks passed over."""
        stands = {first_stand(making): True}
        waiting = list(stands)
        while waiting and len(stands) < most:
            stand = waiting.pop(0)
            for step in steps_of(making, stand):
                later = stepped(making, stand, step)[0]
                if later is not None and later not in stands:
                    stands[later] = True
                    waiting.append(later)
        return list(stands)

    def papers_from(self, stands, chance):
        """All of them; some of them; all with what each claim lets changed; those with other counts, too."""
        papers = [stands, [stands[0]] + [stand for stand in stands if chance.random() < 0.8]]
        papers.append(stands + [stand[:2] + (self.less_of(stand[2], chance),) for stand in stands])
        counted = []
        for hands, boxes, claim in stands:
            hands = tuple(hand[:3] + (max(0, hand[3] - 1),) + hand[4:] for hand in hands)
            counted.append((hands, boxes, claim))
        return papers + [stands + counted]

    def less_of(self, claim, chance):
        if claim and isinstance(claim[0], tuple):
            return claim[:chance.randrange(len(claim) + 1)]
        return claim and claim[:2] + (tuple(part and part[:chance.randrange(3)] for part in claim[2]),)

    def test_a_paper_that_somebody_wrote(self):
        making = made("makes safe 2 0, hand w 0, let x 1, hand r 0, tell 0")
        idle, first = (-1, None, 0, 0, ()), claim_begun(making)
        rests = (-1, None, 0, 0, (0,))
        set_once = (-1, None, 0, 0, (1,))
        paper = [((rests, idle), (), first), ((set_once, idle), (), first), ((set_once, idle), (), (1, -1, (None,)))]
        self.assertFalse(lets_by(making, paper))
        self.assertEqual(seek(making, 9), ("break", [("w", 1), ("r", 0)]))
        making = made("makes safe 2 0, box b whole 2 0 w, hand w 1, put b v, hand r 1, get x b, tell x")
        paper = self.written(making)
        self.assertTrue(lets_by(making, paper))
        for number in range(len(paper)):
            self.assertFalse(lets_by(making, paper[:number] + paper[number + 1:]), number)

    def written(self, making):
        """Each stand with what may be told at the least: the worth of the box, and the one that is coming."""
        paper = []
        for got in (0, 1):
            for worth in (0, 1):
                for hand in ((-1, None, 0, 0, ()), (0, None, 0, 0, ()), (0, None, 1, 0, ())):
                    coming = -1 if hand[0] < 0 else hand[2]
                    may = tuple(sorted({worth} | ({coming} - {-1})))
                    for reader, told in (((-1, None, 0, 0, (got,)), None), ((0, None, 0, 0, (got,)), may)):
                        paper.append(((hand, reader), ((worth, -1),), (worth, coming, (told,))))
        return paper


class UponTest(unittest.TestCase):
    def holds(self, making, most=100000):
        word, things = sought(making, most)
        if word == "paper":
            check_paper(making, things)
        return word == "paper"

    def upon(self, outer, name, inner, most, chance):
        making = put_upon(outer, name, inner)
        check_making(making)
        self.assertNotEqual(sought(making, most)[0], "break", making)
        for _ in range(5):
            weaving = some_weaving(making, 200, chance)
            told = walked(making, weaving)
            self.assertIsNone(told["broken"], (making, weaving))
            self.assertTrue(judged(making, told["events"]))
        return making

    def test_makings_that_hold(self):
        chance = random.Random(44)
        begun = STEADY_OF_SAFE[:2] + (1, (("b", "safe", 2, 1, "w"),)) + STEADY_OF_SAFE[4:]
        # Its writer takes the begin for 0, so it must put the first 0, and puts the first 1 in vain.
        begun = begun[:4] + ((("w", 2, (("unless", ("=", ("var", "v"), ("var", "no")), 3), ("put", "b", ("var", "v")),
                                        ("let", "no", ("not", ("var", "v"))))),) + begun[4][1:],)
        self.assertTrue(self.holds(STEADY_OF_SAFE) and self.holds(STEADY_OF_BITS) and self.holds(begun))
        making = STEADY_OF_BITS
        for name, inner in (("b", STEADY_OF_SAFE), ("c", STEADY_OF_SAFE), ("a", begun)):
            making = self.upon(making, name, inner, 30000, chance)
        self.assertEqual([box[1] for box in making[3]], ["safe"] * 3)
        self.assertTrue(self.holds(making, 30000))

    def test_one_box_passed_on_upon_another(self):
        chance = random.Random(45)
        kinds = ("safe", "steady", "whole")
        for place, kind in enumerate(kinds):
            for readers in (1, 2):
                outer = passed_on(kinds[chance.randrange(place + 1)], kind, 2, readers)
                for box in kinds[place:]:
                    for inner_kind in kinds[place:kinds.index(box) + 1]:
                        self.upon(outer, "b", passed_on(inner_kind, box, 2, readers), 4000, chance)

    def test_boxes_written_by_readers(self):
        chance = random.Random(46)
        # The reader says that it reads, and the writer looks at that: it matters nothing, but both are there.
        both = made(
            "makes steady 2 0, box b steady 2 0 w, box c safe 2 0 r",
            "hand w 4, get y c, put b v",
            "hand r 6, put c 1, get x b, put c 0, tell x",
        )
        self.assertTrue(self.holds(both))
        for outer, name in ((both, "b"), (both, "c"), (passed_on("steady", "steady"), "b")):
            making = self.upon(outer, name, both, 20000, chance)
            self.assertTrue(self.holds(making, 60000))

    def test_makings_by_chance(self):
        chance = random.Random(47)
        makings = [near_making(chance) for _ in range(150)]
        held = [making for making in makings if self.holds(making, 1200)]
        self.assertGreater(len(held), 20)
        told = 0
        for _ in range(120):
            outer, inner = chance.choice(held), chance.choice(held)
            try:
                self.upon(outer, chance.choice(outer[3])[0], inner, 1500, chance)
                told += 1
            except NoUpon:
                continue
        self.assertGreater(told, 15)

    def test_a_weaker_inner_one_is_refused_and_would_break(self):
        outer = passed_on("steady", "steady")
        with self.assertRaises(NoUpon):
            put_upon(outer, "b", passed_on("safe", "safe"))
        self.assertEqual(sought(put_upon(outer, "b", with_kind(passed_on("safe", "safe"), "steady")), 9999)[0], "break")


if __name__ == "__main__":
    unittest.main()
