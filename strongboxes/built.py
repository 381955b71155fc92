"""What is a stand of a making: how each of its parts is built (point 18)."""

from strongboxes.claims import HAD, NONE
from strongboxes.exprs import GREATEST, is_whole
from strongboxes.makings import is_tuple
from strongboxes.stands import IDLE


def is_stand(plan, thing):
    """Tell whether a thing is a stand of a plan's making."""
    # Boxes and claim are held against the hands, so these must be well ahead of them.
    return (is_tuple(thing, 3, 3) and are_hands(plan, thing[0])
            and are_boxes(plan, thing[0], thing[1]) and is_claim(plan, thing[0], thing[2]))


def are_hands(plan, things):
    """Tell whether a thing is the tuple of the hands of a stand."""
    count = len(plan.making[4])
    return is_tuple(things, count, count) and all([is_hand(plan, number, thing) for number, thing in enumerate(things)])


def is_hand(plan, number, thing):
    """Tell whether a thing is a hand of a stand, that with a number."""
    if not is_tuple(thing, 5, 5) or not is_place(plan, number, thing[0]):
        return False
    idle = thing[0] == IDLE
    most_worth = plan.making[1] - 1 if number == 0 and not idle else 0
    most_count = 0 if idle else plan.making[4][number][1]
    return (is_half(plan, number, thing[0], thing[1]) and is_whole(thing[2], 0, most_worth)
            and is_whole(thing[3], 0, most_count) and are_numbers(thing[4], len(plan.variables[number])))


def is_place(plan, number, thing):
    """Tell whether a thing is where a hand may stand: idle, or at a put or get."""
    rows = plan.making[4][number][2]
    if not is_whole(thing, IDLE, len(rows) - 1):
        return False
    return thing == IDLE or rows[thing][0] in ("put", "get")


def is_half(plan, number, at, thing):
    """Tell whether a thing is what a hand at a row may have between two steps, or None."""
    if thing is None or at == IDLE:
        return thing is None
    row = plan.row_at(number, at)
    box = plan.making[3][plan.place_of(row)]
    if box[1] == "whole":
        return False
    return is_tuple(thing, 0, 0) if row[0] == "put" else are_worths(thing, box[2])


def are_worths(thing, size):
    """Tell whether a thing is a sorted tuple of unlike worths of a box of a size."""
    # Only worths are looked at together: other things may have no hash or no order.
    return (is_tuple(thing, 0, size) and all([is_whole(part, 0, size - 1) for part in thing])
            and list(thing) == sorted(set(thing)))


def are_numbers(thing, count):
    """Tell whether a thing is a tuple of so many numbers."""
    return is_tuple(thing, count, count) and all([is_whole(part, 0, GREATEST) for part in thing])


def are_boxes(plan, hands, things):
    """Tell whether a thing is the tuple of the boxes of a stand with these hands."""
    count = len(plan.making[3])
    if not is_tuple(things, count, count):
        return False
    return all([is_box(plan, hands, place, thing) for place, thing in enumerate(things)])


def is_box(plan, hands, place, thing):
    """Tell whether a thing is the box at a place of a stand with these hands."""
    greatest = plan.making[3][place][2] - 1
    if not is_tuple(thing, 2, 2) or not is_whole(thing[0], 0, greatest):
        return False
    if is_being_put(plan, hands, place):
        return is_whole(thing[1], 0, greatest)
    return is_whole(thing[1], NONE, NONE)


def is_being_put(plan, hands, place):
    """Tell whether the hand of the box at a place stands between the steps of a put of it."""
    number = plan.names.index(plan.making[3][place][4])
    hand = hands[number]
    if hand[1] is None:
        return False
    row = plan.row_at(number, hand[0])
    return row[0] == "put" and plan.place_of(row) == place


def is_claim(plan, hands, thing):
    """Tell whether a thing is a claim of a stand with these hands."""
    idle = [hand[0] == IDLE for hand in hands]
    size = plan.making[1]
    if plan.making[0] != "whole":
        return is_weak_claim(thing, idle, size)
    if not isinstance(thing, tuple) or not all([is_case(case, idle, size) for case in thing]):
        return False
    return list(thing) == sorted(set(thing))


def is_weak_claim(thing, idle, size):
    """Tell whether a thing is a claim of a safe or steady box of a size; idle has of each hand whether it is."""
    readers = len(idle) - 1
    if not is_tuple(thing, 3, 3) or not is_whole(thing[0], 0, size - 1) or not is_tuple(thing[2], readers, readers):
        return False
    coming = is_whole(thing[1], NONE, NONE) if idle[0] else is_whole(thing[1], 0, size - 1)
    tells = [part is None if rests else are_worths(part, size) for part, rests in zip(thing[2], idle[1:])]
    return coming and all(tells)


def is_case(thing, idle, size):
    """Tell whether a thing is a case of a claim of a whole box of a size; idle has of each hand whether it is."""
    readers = len(idle) - 1
    if not is_tuple(thing, 3, 3) or not is_whole(thing[0], 0, size - 1) or not is_tuple(thing[2], readers, readers):
        return False
    return all([is_outlook(part, rests, size) for part, rests in zip(thing[1:2] + thing[2], idle)])


def is_outlook(thing, idle, size):
    """Tell whether a thing is what a case says of a hand: what it is to write or will tell."""
    if idle:
        return is_whole(thing, NONE, NONE)
    return is_whole(thing, HAD, size - 1) and thing != NONE
