"""Point 18: what is a stand of a making, part by part."""

import random
import unittest

from plain_hands import near_making, some_making, some_weaving
from plain_papers import plainly_a_stand
from programs import made, passed_on, with_kind
from strongboxes.errors import NoPaper
from strongboxes.papers import check_paper
from strongboxes.runner import walked
from strongboxes.stands import first_stand

# Row 0 puts a steady box, 1 gets a safe one, 2 is a let, 3 puts and 4 gets whole ones.
STEADY = made(
    "makes steady 3 1, box b steady 3 2 w, box c safe 4 0 r, box d whole 2 1 w",
    "hand w 20, put b v, get x c, let y x, put d 1, get x d, put b 0",
    "hand r 8, get x b, put c + x z, get y c, tell 1",
    "hand s 0, tell 1",
)
WHOLE = with_kind(STEADY, "whole")
IDLE_W, IDLE_R, IDLE_S = (-1, None, 0, 0, (0, 0)), (-1, None, 0, 0, (0, 0, 0)), (-1, None, 0, 0, ())
IDLE = (IDLE_W, IDLE_R, IDLE_S)
RESTS = ((2, -1), (0, -1), (1, -1))
NO_NUMBERS = (None, True, False, "0", "", 0.0, 1.0, (), (0,), [], {}, -1, -2, -3, 10 ** 20)


def with_part(things, place, thing):
    return things[:place] + (thing,) + things[place + 1:]


class StandsTest(unittest.TestCase):
    making = STEADY

    def asked(self, thing, making=None):
        """Whether a thing is taken for a stand: where it is, the entry behind it is the first that is none."""
        making = making or self.making
        with self.assertRaises(NoPaper) as taken:
            check_paper(making, [first_stand(making), thing, None])
        self.assertIn(taken.exception.at, (1, 2))
        return taken.exception.at == 2

    def is_one(self, thing, making=None):
        with self.subTest(repr(thing)[:200]):
            self.assertTrue(self.asked(thing, making))

    def is_none(self, thing, making=None):
        with self.subTest(repr(thing)[:200]):
            self.assertFalse(self.asked(thing, making))


class BuiltTest(StandsTest):
    def test_the_first_stand(self):
        self.assertEqual(first_stand(STEADY), (IDLE, RESTS, (1, -1, (None, None))))
        self.is_one(first_stand(STEADY))
        self.is_one(first_stand(WHOLE), WHOLE)
        self.is_none(first_stand(STEADY), WHOLE)
        self.is_none(first_stand(WHOLE), STEADY)

    def test_what_is_no_such_tuple(self):
        stand = first_stand(STEADY)
        for thing in (None, 0, True, "", "stand", (), [], {}, list(stand), stand[:2], stand + (None,), (stand,)):
            self.is_none(thing)
        for place in range(3):
            for thing in (None, 0, True, "", (), [], {}, list(stand[place]), stand[place][:-1],
                          stand[place] + stand[place][-1:]):
                self.is_none(with_part(stand, place, thing))

    def test_what_is_no_hand_or_box(self):
        stand = first_stand(STEADY)
        for number, hand in enumerate(IDLE):
            for thing in (None, 0, (), [], "", list(hand), hand[:4], hand + (0,), -1):
                self.is_none(with_part(stand, 0, with_part(IDLE, number, thing)))
        for place, box in enumerate(RESTS):
            for thing in (None, 0, (), [], "", list(box), box[:1], box + (-1,), -1):
                self.is_none(with_part(stand, 1, with_part(RESTS, place, thing)))

    def test_things_nested_thousands_deep(self):
        deep = ()
        for _ in range(100000):
            deep = (deep,)
        stand = first_stand(STEADY)
        for making in (STEADY, WHOLE):
            for place in range(3):
                self.assertFalse(self.asked(with_part(first_stand(making), place, deep), making))
        self.assertFalse(self.asked(deep))
        for place in range(5):
            self.assertFalse(self.asked(with_part(stand, 0, with_part(IDLE, 0, with_part(IDLE_W, place, deep)))))


class HandsTest(StandsTest):
    def stand(self, writer=IDLE_W, reader=IDLE_R, other=IDLE_S, boxes=RESTS):
        """A stand of STEADY with a claim that fits its hands."""
        hands = (writer, reader, other)
        coming = -1 if writer[0] == -1 else 2
        tells = tuple(None if hand[0] == -1 else (0, 1) for hand in hands[1:])
        return (hands, boxes, (1, coming, tells))

    def test_where_a_hand_stands(self):
        for at in range(-1, 6):
            hand = (at, None, 0, 0, (0, 0))
            (self.is_none if at == 2 else self.is_one)(self.stand(hand))
        for at in range(-1, 4):
            hand = (at, None, 0, 0, (0, 0, 0))
            (self.is_none if at == 3 else self.is_one)(self.stand(reader=hand))
        for at in (None, True, False, "0", 1.0, 6, 7, -2, (0,), [0]):
            self.is_none((((at, None, 0, 0, (0, 0)), IDLE_R, IDLE_S), RESTS, (1, 2, (None, None))))
        for at in (0, 1):
            self.is_none((IDLE[:2] + ((at, None, 0, 0, ()),), RESTS, (1, -1, (None, (0,)))))

    def test_halves_of_a_put(self):
        beside = with_part(RESTS, 0, (2, 1))
        self.is_one(self.stand((0, (), 2, 3, (0, 0)), boxes=beside))
        self.is_one(self.stand((5, (), 2, 3, (0, 0)), boxes=beside))
        for half in ((0,), (1,), [], 0, False, True, "", -1, (None,)):
            self.is_none(self.stand((0, half, 2, 3, (0, 0)), boxes=beside))
            self.is_none(self.stand((0, half, 2, 3, (0, 0))))
        # A whole box is put and got in one step.
        self.is_one(self.stand((3, None, 2, 3, (0, 0))))
        self.is_none(self.stand((3, (), 2, 3, (0, 0))))
        self.is_none(self.stand((3, (), 2, 3, (0, 0)), boxes=with_part(RESTS, 2, (1, 0))))

    def test_halves_of_a_get(self):
        for half in (None, (), (0,), (3,), (0, 1, 2, 3), (1, 3)):
            self.is_one(self.stand((1, half, 2, 3, (0, 0))))
        for half in ((1, 0), (0, 0), (4,), (-1,), (0, 4), (True,), (False,), (0, True), ("0",), (None,), (0.0,), ([],),
                     [], [0], 0, True, "", {}, {0}, ((0,),), (0, 1, 2, 3, 3), (0, 1, 2, 3, 4)):
            self.is_none(self.stand((1, half, 2, 3, (0, 0))))
        for half in ((), (0, 1, 2)):
            self.is_one(self.stand(reader=(0, half, 0, 3, (0, 0, 0))))
        for half in ((3,), (0, 1, 2, 3)):
            self.is_none(self.stand(reader=(0, half, 0, 3, (0, 0, 0))))
        for half in ((), (0,), (1,), (0, 1)):
            self.is_none(self.stand((4, half, 2, 3, (0, 0))))

    def test_halves_of_idle_hands(self):
        for half in ((), (0,), 0, False, "", []):
            self.is_none(self.stand((-1, half, 0, 0, (0, 0))))
            self.is_none(self.stand(reader=(-1, half, 0, 0, (0, 0, 0))))

    def test_worths(self):
        for worth in range(3):
            self.is_one(self.stand((0, None, worth, 0, (0, 0))))
        for worth in NO_NUMBERS + (3, 9):
            self.is_none(self.stand((0, None, worth, 0, (0, 0))))
            self.is_none(self.stand((-1, None, worth, 0, (0, 0))))
            self.is_none(self.stand(reader=(0, None, worth, 0, (0, 0, 0))))
            self.is_none(self.stand(reader=(-1, None, worth, 0, (0, 0, 0))))
        for worth in (1, 2):
            self.is_none(self.stand((-1, None, worth, 0, (0, 0))))
            self.is_none(self.stand(reader=(0, None, worth, 0, (0, 0, 0))))

    def test_counts(self):
        for count in range(21):
            self.is_one(self.stand((0, None, 2, count, (0, 0))))
        for count in range(9):
            self.is_one(self.stand(reader=(0, None, 0, count, (0, 0, 0))))
        for count in NO_NUMBERS + (21, 400):
            self.is_none(self.stand((0, None, 2, count, (0, 0))))
        for count in NO_NUMBERS + (9, 20):
            self.is_none(self.stand(reader=(0, None, 0, count, (0, 0, 0))))
        for count in NO_NUMBERS + (1, 8, 20):
            self.is_none(self.stand((-1, None, 0, count, (0, 0))))
            self.is_none(self.stand(reader=(-1, None, 0, count, (0, 0, 0))))

    def test_numbers(self):
        for at in (-1, 0):
            for numbers in ((0, 9), (9, 9), (5, 0)):
                self.is_one(self.stand((at, None, 0, 0, numbers)))
            for numbers in ((), (0,), (0, 0, 0), [0, 0], None, 0, "00", {}):
                self.is_none(self.stand((at, None, 0, 0, numbers)))
            for number in NO_NUMBERS + (10,):
                self.is_none(self.stand((at, None, 0, 0, (0, number))))
                self.is_none(self.stand((at, None, 0, 0, (number, 0))))
        self.is_none(self.stand(other=(-1, None, 0, 0, (0,))))


class BoxesTest(StandsTest):
    def stand(self, boxes, writer=IDLE_W, reader=IDLE_R):
        tells = (None if reader[0] == -1 else (), None)
        return ((writer, reader, IDLE_S), boxes, (1, -1 if writer[0] == -1 else 0, tells))

    def test_worths(self):
        for place, size in ((0, 3), (1, 4), (2, 2)):
            for worth in range(size):
                self.is_one(self.stand(with_part(RESTS, place, (worth, -1))))
            for worth in NO_NUMBERS + (size, 9):
                self.is_none(self.stand(with_part(RESTS, place, (worth, -1))))

    def test_nothing_is_coming_but_between_the_steps_of_a_put(self):
        for place in range(3):
            for coming in (0, 1, 2, 3, -2, None, True, "-1", -1.0, ()):
                self.is_none(self.stand(with_part(RESTS, place, (0, coming))))
                self.is_none(self.stand(with_part(RESTS, place, (0, coming)), (0, None, 2, 0, (0, 0))))

    def test_a_worth_is_coming_between_the_steps_of_a_put(self):
        for at in (0, 5):
            writer = (at, (), 2, 1, (0, 0))
            for coming in range(3):
                self.is_one(self.stand(with_part(RESTS, 0, (2, coming)), writer))
            for coming in NO_NUMBERS + (3,):
                self.is_none(self.stand(with_part(RESTS, 0, (2, coming)), writer))
            self.is_none(self.stand(with_part(with_part(RESTS, 0, (2, 1)), 1, (0, 1)), writer))
        reader = (1, (), 0, 1, (0, 0, 0))
        for coming in range(4):
            self.is_one(self.stand(with_part(RESTS, 1, (2, coming)), reader=reader))
        self.is_none(self.stand(RESTS, reader=reader))
        self.is_none(self.stand(with_part(RESTS, 0, (2, 1)), reader=reader))

    def test_a_get_lets_nothing_come(self):
        writer = (1, (), 2, 1, (0, 0))
        self.is_one(self.stand(RESTS, writer))
        for place in range(3):
            self.is_none(self.stand(with_part(RESTS, place, (0, 1)), writer))


class WeakClaimsTest(StandsTest):
    DEED_W, DEED_R = (0, None, 2, 0, (0, 0)), (0, None, 0, 0, (0, 0, 0))

    def both(self, hands, claim, holds):
        for kind in ("safe", "steady"):
            ask = self.is_one if holds else self.is_none
            ask((hands, RESTS, claim), with_kind(STEADY, kind))

    def test_worths(self):
        for worth in range(3):
            self.both(IDLE, (worth, -1, (None, None)), True)
        for worth in NO_NUMBERS + (3,):
            self.both(IDLE, (worth, -1, (None, None)), False)

    def test_coming_is_none_just_where_the_writer_is_idle(self):
        writes = (self.DEED_W, IDLE_R, IDLE_S)
        for coming in range(3):
            self.both(writes, (0, coming, (None, None)), True)
            self.both(IDLE, (0, coming, (None, None)), False)
        for coming in NO_NUMBERS + (3,):
            self.both(writes, (0, coming, (None, None)), False)
            self.both(IDLE, (0, coming, (None, None)), coming == -1)

    def test_coming_need_not_be_what_is_to_be_written(self):
        self.both((self.DEED_W, IDLE_R, IDLE_S), (0, 1, (None, None)), True)

    def test_tells_are_none_just_where_a_reader_is_idle(self):
        reads = (IDLE_W, self.DEED_R, IDLE_S)
        for told in ((), (0,), (1,), (0, 2), (0, 1, 2)):
            self.both(reads, (1, -1, (told, None)), True)
            self.both(IDLE, (1, -1, (told, None)), False)
            self.both(reads, (1, -1, (told, told)), False)
            self.both(reads, (1, -1, (None, told)), False)
        self.both(reads, (1, -1, (None, None)), False)
        for told in ((1, 0), (0, 0), (3,), (-1,), (-2,), (True,), (False,), ("0",), ([],), (None,), [], [0], 0, True,
                     -1, -2, "", {}, (0, 1, 2, 2), (0, 1, 2, 3)):
            self.both(reads, (1, -1, (told, None)), False)
            self.both(IDLE, (1, -1, (told, None)), False)

    def test_as_many_as_readers(self):
        for tells in ((), (None,), (None, None, None), [None, None], None, "", 0):
            self.both(IDLE, (1, -1, tells), False)
        for claim in ((), (1,), (1, -1), (1, -1, (None, None), 0), [1, -1, (None, None)], None, 0, ((1, -1, (-1, -1)),)):
            self.both(IDLE, claim, False)


class WholeClaimsTest(StandsTest):
    making = WHOLE
    DEED_W, DEED_R = (0, None, 2, 0, (0, 0)), (0, None, 0, 0, (0, 0, 0))

    def told(self, hands, claim, holds):
        (self.is_one if holds else self.is_none)((hands, RESTS, claim))

    def test_none_and_some_cases(self):
        self.told(IDLE, (), True)
        self.told(IDLE, ((0, -1, (-1, -1)),), True)
        self.told(IDLE, ((0, -1, (-1, -1)), (1, -1, (-1, -1)), (2, -1, (-1, -1))), True)

    def test_sorted_and_unlike(self):
        one, other = (0, -1, (-1, -1)), (1, -1, (-1, -1))
        self.told(IDLE, (other, one), False)
        self.told(IDLE, (one, one), False)
        self.told(IDLE, (one, other, other), False)
        self.told(IDLE, [one, other], False)

    def test_not_closed(self):
        deeds = (self.DEED_W, self.DEED_R, IDLE_S)
        self.told(deeds, ((0, 1, (-2, -1)),), True)
        self.told(deeds, ((0, -2, (-2, -1)), (0, 1, (2, -1))), True)

    def test_worths(self):
        for worth in range(3):
            self.told(IDLE, ((worth, -1, (-1, -1)),), True)
        for worth in NO_NUMBERS + (3,):
            self.told(IDLE, ((worth, -1, (-1, -1)),), False)

    def test_coming(self):
        writes = (self.DEED_W, IDLE_R, IDLE_S)
        for coming in (-2, 0, 1, 2):
            self.told(writes, ((0, coming, (-1, -1)),), True)
            self.told(IDLE, ((0, coming, (-1, -1)),), False)
        for coming in (-1, -3, 3, None, True, False, "0", -2.0, ()):
            self.told(writes, ((0, coming, (-1, -1)),), False)
            self.told(IDLE, ((0, coming, (-1, -1)),), coming == -1)
        self.told(writes, ((0, -2, (-1, -1)), (0, -1, (-1, -1))), False)
        self.told(writes, ((0, -2, (-1, -1)), (0, 0, (-1, -1)), (0, 2, (-1, -1))), True)

    def test_tells(self):
        reads = (IDLE_W, self.DEED_R, IDLE_S)
        for told in (-2, 0, 1, 2):
            self.told(reads, ((0, -1, (told, -1)),), True)
            self.told(IDLE, ((0, -1, (told, -1)),), False)
            self.told(reads, ((0, -1, (-1, told)),), False)
            self.told(reads, ((0, -1, (told, told)),), False)
        for told in (-1, -3, 3, None, True, False, "0", -2.0, (), (0,)):
            self.told(reads, ((0, -1, (told, -1)),), False)
            self.told(IDLE, ((0, -1, (told, -1)),), told == -1)

    def test_what_is_no_case(self):
        for case in (None, 0, (), (0, -1), (0, -1, (-1,)), (0, -1, (-1, -1, -1)), [0, -1, (-1, -1)], (0, -1, [-1, -1]),
                     (0, -1, (-1, -1), 0), (0, -1, None), (0, -1, -1), "case", {}, []):
            self.told(IDLE, (case,), False)
            self.told(IDLE, ((0, -1, (-1, -1)), case), False)


class ByChanceTest(StandsTest):
    THINGS = (None, True, False, -2, -1, 0, 1, 2, 3, 9, 10, (), (0,), (1,), (0, 1), (1, 0), (0, 0), [], [0], "", "0", 0.0)

    def test_stands_with_a_part_changed(self):
        chance = random.Random(118)
        told = {True: 0, False: 0}
        for _ in range(700):
            making = chance.choice((near_making, some_making))(chance)
            weaving = some_weaving(making, chance.randrange(15), chance)
            told_of = walked(making, weaving)
            stand = told_of["stand"] or walked(making, weaving[:-1])["stand"]
            self.is_one(stand, making)
            for _ in range(12):
                thing = self.changed(stand, chance)
                asked = plainly_a_stand(making, thing)
                self.assertEqual(self.asked(thing, making), asked, (making, thing))
                told[asked] += thing != stand
        self.assertGreater(min(told.values()), 150, told)

    def changed(self, thing, chance):
        """A thing with some part of it changed."""
        if not isinstance(thing, tuple) or not thing or chance.random() < 0.07:
            if isinstance(thing, tuple) and chance.random() < 0.5:
                return chance.choice((list(thing), thing[:-1], thing + thing[-1:], thing[::-1], thing + (0,)))
            return chance.choice(self.THINGS)
        place = chance.randrange(len(thing))
        return with_part(thing, place, self.changed(thing[place], chance))


class OthersTest(StandsTest):
    def test_hands_and_boxes_of_other_makings(self):
        one, more = passed_on("safe", "safe"), passed_on("safe", "safe", 2, 2)
        self.is_none(first_stand(more), one)
        self.is_none(first_stand(one), more)
        no_boxes = made("makes safe 2 0, hand w 0, hand r 0, tell 0")
        self.is_one(first_stand(no_boxes), no_boxes)
        self.is_none(first_stand(no_boxes), one)


if __name__ == "__main__":
    unittest.main()
