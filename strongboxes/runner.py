"""Weavings, gone through step by step (point 15)."""

from strongboxes.errors import NoStep
from strongboxes.plans import Plan
from strongboxes.stands import move_of, moved, stand_begun


def walked(making, weaving):
    """Tell a dict of the events of a weaving, how it broke and the stand behind it; NoStep where it can't be."""
    if not isinstance(weaving, list):
        raise NoStep(0)
    plan = Plan(making)
    stand = stand_begun(plan)
    broken = None
    events = []
    for number, step in enumerate(weaving):
        move = None if stand is None else move_of(plan, stand, step)
        if move is None:
            raise NoStep(number)
        told = moved(plan, stand, move)
        stand = told[0]
        broken = told[1]
        events.extend(told[2])
    return {"events": events, "broken": broken, "stand": stand}
