"""Stands, the steps that can be taken there, and what a step does (points 11 to 14)."""

from strongboxes.claims import NONE, beside, claim_begun, with_thing
from strongboxes.errors import NoStep
from strongboxes.exprs import GREATEST, is_whole, number_of
from strongboxes.makings import is_tuple
from strongboxes.plans import Plan

# The row of a hand that does nothing.
IDLE = -1


def first_stand(making):
    """Tell the stand at first."""
    return stand_begun(Plan(making))


def steps_of(making, stand):
    """Tell the list of steps that can be taken at a stand."""
    plan = Plan(making)
    return [(plan.names[number], pick) for number, pick in moves_of(plan, stand)]


def stepped(making, stand, step):
    """Tell a tuple (later, broken, events) of a step; refuse with NoStep one that can't be taken."""
    plan = Plan(making)
    move = move_of(plan, stand, step)
    if move is None:
        raise NoStep(0)
    return moved(plan, stand, move)


def stand_begun(plan):
    """Tell the first stand of a plan's making."""
    hands = [(IDLE, None, 0, 0, (0,) * len(names)) for names in plan.variables]
    boxes = [(box[3], NONE) for box in plan.making[3]]
    return (tuple(hands), tuple(boxes), claim_begun(plan.making))


def moves_of(plan, stand):
    """Tell the list of moves, which are steps with the hand's number in the place of its name."""
    moves = []
    for number, hand in enumerate(stand[0]):
        for pick in picks_of(plan, number, hand):
            moves.append((number, pick))
    return moves


def picks_of(plan, number, hand):
    """Tell the picks that a hand has, rising."""
    if hand[0] == IDLE:
        return tuple(range(plan.making[1])) if number == 0 else (0,)
    if hand[1] is not None and plan.row_at(number, hand[0])[0] == "get":
        return hand[1]
    return (0,)


def move_of(plan, stand, step):
    """Tell the move of a step, or None where the step can't be taken."""
    # A truth is equal to a number, so what is no whole number is sorted out first.
    if not is_tuple(step, 2, 2) or step[0] not in plan.names or not is_whole(step[1], 0, GREATEST):
        return None
    move = (plan.names.index(step[0]), step[1])
    return move if move in moves_of(plan, stand) else None


def moved(plan, stand, move):
    """Tell a tuple (later, broken, events) of a move that can be made."""
    number = move[0]
    hand = stand[0][number]
    if hand[0] == IDLE:
        return begun(plan, stand, move)
    if hand[3] >= plan.making[4][number][1]:
        return broken("long", plan, number, [])
    row = plan.row_at(number, hand[0])
    if row[0] == "get":
        return got(plan, stand, move, row)
    if hand[1] is None:
        return put(plan, stand, number, row)
    place = plan.place_of(row)
    return put_ended(plan, stand, number, place, stand[1][place][1])


def broken(word, plan, number, events):
    """Tell what a move that breaks tells."""
    return (None, (word, plan.names[number]), events)


def begun(plan, stand, move):
    """Begin a deed."""
    number = move[0]
    # A reader's pick is 0, which is the worth of a hand that writes nothing.
    worth = move[1]
    event = ("begin", plan.names[number], worth) if number == 0 else ("begin", plan.names[number])
    claim = plan.claim_on(stand[2], "begin", number, worth)
    return gone_on(plan, (stand[0], stand[1], claim), number, (0, worth, 0, stand[0][number][4]), [event])


def got(plan, stand, move, row):
    """Do a step of a get."""
    number = move[0]
    hand = stand[0][number]
    place = plan.place_of(row)
    box = plan.making[3][place]
    there = stand[1][place]
    if box[1] != "whole" and hand[1] is None:
        may = (there[0],) if there[1] == NONE else beside(box[1], box[2], there[:1], there[1])
        return (with_hand(stand, number, between(hand, may)), None, [])
    worth = there[0] if box[1] == "whole" else move[1]
    numbers = with_thing(hand[4], plan.variables[number].index(row[1]), worth)
    return gone_on(plan, stand, number, (hand[0] + 1, hand[2], hand[3] + 1, numbers), [])


def put(plan, stand, number, row):
    """Do the first step of a put, or its one step."""
    hand = stand[0][number]
    place = plan.place_of(row)
    box = plan.making[3][place]
    worth = number_of(row[2], plan.named_numbers(number, hand[2], hand[4]))
    if worth >= box[2]:
        return broken("great", plan, number, [])
    if box[1] == "whole":
        return put_ended(plan, stand, number, place, worth)
    hands = [beside_put(plan, getter, other, place, worth) for getter, other in enumerate(stand[0])]
    boxes = with_thing(stand[1], place, (stand[1][place][0], worth))
    return (with_hand((tuple(hands), boxes, stand[2]), number, between(hand, ())), None, [])


def put_ended(plan, stand, number, place, worth):
    """Do the last step of a put of a worth."""
    hand = stand[0][number]
    later = (stand[0], with_thing(stand[1], place, (worth, NONE)), stand[2])
    return gone_on(plan, later, number, (hand[0] + 1, hand[2], hand[3] + 1, hand[4]), [])


def between(hand, half):
    """Tell a hand behind the first of two steps."""
    return (hand[0], half, hand[2], hand[3] + 1, hand[4])


def beside_put(plan, number, hand, place, worth):
    """Tell a hand, which may get a worth, too, where it is between the steps of a get of the box at a place."""
    if hand[1] is None:
        return hand
    row = plan.row_at(number, hand[0])
    if row[0] != "get" or plan.place_of(row) != place:
        return hand
    box = plan.making[3][place]
    return with_thing(hand, 1, beside(box[1], box[2], hand[1], worth))


def with_hand(stand, number, hand):
    """Tell a stand with another hand at a number."""
    return (with_thing(stand[0], number, hand), stand[1], stand[2])


def gone_on(plan, stand, number, deed, events):
    """Let a hand go on; deed is (row, worth, count, numbers), events are those of this step so far."""
    way = plan.way_on(number, deed[0], deed[1], deed[3])
    if way[0] == "stands":
        return (with_hand(stand, number, (way[1], None, deed[1], deed[2], way[2])), None, events)
    if way[0] != "ends":
        return broken(way[0], plan, number, events)
    name = plan.names[number]
    ended = events + [("end", name) if number == 0 else ("end", name, way[3])]
    claim = plan.claim_on(stand[2], "end", number, way[3])
    if claim is None:
        return broken("tells", plan, number, ended)
    idle = (IDLE, None, 0, 0, way[2])
    return (with_hand((stand[0], stand[1], claim), number, idle), None, ended)
