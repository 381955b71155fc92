"""A plainer way to check papers: what a stand is, part by part, and all stands asked one by one."""

from plain_hands import names_in
from strongboxes.stands import first_stand, stepped, steps_of


def is_one_of(thing, things):
    """Whether a thing is one of some to the letter, so that True is no 1 and a list is no tuple."""
    return any(repr(thing) == repr(one) for one in things)


def is_rising(thing, size):
    return type(thing) is tuple and all(is_one_of(part, range(size)) for part in thing) and all(
        one < other for one, other in zip(thing, thing[1:]))


def puts_of(making, number, hand):
    """The name of the box of which a hand stands between the steps of a put, or None."""
    row = making[4][number][2][hand[0]] if hand[0] >= 0 else ("",)
    return row[1] if row[0] == "put" and hand[1] is not None else None


def plainly_a_hand(making, number, thing):
    if type(thing) is not tuple or len(thing) != 5:
        return False
    at, half, worth, count, numbers = thing
    name, within, rows = making[4][number]
    if not is_one_of(at, [-1] + [place for place, row in enumerate(rows) if row[0] in ("put", "get")]):
        return False
    variables = set().union(*map(names_in, rows)) - {"v"}
    if type(numbers) is not tuple or len(numbers) != len(variables):
        return False
    if not all(is_one_of(part, range(10)) for part in numbers):
        return False
    if at == -1:
        return repr((half, worth, count)) == "(None, 0, 0)"
    box = next(box for box in making[3] if box[0] == (rows[at][1] if rows[at][0] == "put" else rows[at][2]))
    halves = half is None
    if box[1] != "whole":
        halves = halves or (repr(half) == "()" if rows[at][0] == "put" else is_rising(half, box[2]))
    worths = range(making[1]) if number == 0 else [0]
    return halves and is_one_of(worth, worths) and is_one_of(count, range(within + 1))


def plainly_a_stand(making, thing):
    if type(thing) is not tuple or len(thing) != 3:
        return False
    hands, boxes, claim = thing
    if type(hands) is not tuple or len(hands) != len(making[4]):
        return False
    if not all(plainly_a_hand(making, number, hand) for number, hand in enumerate(hands)):
        return False
    if type(boxes) is not tuple or len(boxes) != len(making[3]):
        return False
    put = [puts_of(making, number, hand) for number, hand in enumerate(hands)]
    for box, there in zip(making[3], boxes):
        comings = range(box[2]) if box[0] in put else [-1]
        if not is_one_of(there, [(worth, coming) for worth in range(box[2]) for coming in comings]):
            return False
    return plainly_a_claim(making, [hand[0] == -1 for hand in hands], claim)


def plainly_a_claim(making, idle, claim):
    if type(claim) is not tuple:
        return False
    if making[0] != "whole":
        return plainly_told(claim, idle, making[1], range(making[1]), lambda part: is_rising(part, making[1]), None)
    worths = [-2] + list(range(making[1]))
    if not all(plainly_told(case, idle, making[1], worths, lambda part: is_one_of(part, worths), -1) for case in claim):
        return False
    return all(one < other for one, other in zip(claim, claim[1:]))


def plainly_told(case, idle, size, comings, is_told, rests):
    if type(case) is not tuple or len(case) != 3 or not is_one_of(case[0], range(size)):
        return False
    if not is_one_of(case[1], [-1] if idle[0] else comings):
        return False
    if type(case[2]) is not tuple or len(case[2]) != len(idle) - 1:
        return False
    return all(repr(part) == repr(rests) if idles else is_told(part) for part, idles in zip(case[2], idle[1:]))


def plainly_covers(making, one, other):
    """Whether a stand covers another one."""
    if one[:2] != other[:2]:
        return False
    mine, others = one[2], other[2]
    if making[0] == "whole":
        return all(case in others for case in mine)
    return mine[:2] == others[:2] and all(
        part == there if part is None or there is None else all(worth in there for worth in part)
        for part, there in zip(mine[2], others[2]))


def slowly_checked(making, paper):
    """The number at which a paper is refused, or None."""
    if type(paper) is not list:
        return -1
    well = [plainly_a_stand(making, entry) for entry in paper]
    stands = [entry for entry, holds in zip(paper, well) if holds]
    if not any(plainly_covers(making, stand, first_stand(making)) for stand in stands):
        return -1
    if not all(well):
        return well.index(False)
    for number, stand in enumerate(stands):
        for step in steps_of(making, stand):
            later, broken, _ = stepped(making, stand, step)
            if broken is not None or not any(plainly_covers(making, other, later) for other in stands):
                return number
    return None
