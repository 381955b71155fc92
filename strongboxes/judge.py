"""Events, what of them is refused, and whether they are kept (point 10)."""

from strongboxes.claims import claim_begun, claim_reads, claim_told, claim_writes, claim_written
from strongboxes.errors import NoEvents
from strongboxes.exprs import is_whole
from strongboxes.makings import is_tuple

NO_WORTH = -1


def judged(making, events):
    """Tell whether each reading that ended tells what the claim lets it; refuse with NoEvents what are no events."""
    claim = claim_begun(making)
    # What comes behind a telling that is not kept may be refused all the same, so all is read first.
    for act in acts_of(making, events):
        claim = claim_behind(making, claim, act)
        if claim is None:
            return False
    return True


def claim_behind(making, claim, act):
    """Tell the claim behind an act, or None where it breaks."""
    begins = act[0] == "begin"
    if act[1] == 0:
        return claim_writes(making, claim, act[2]) if begins else claim_written(making, claim)
    reader = act[1] - 1
    return claim_reads(making, claim, reader) if begins else claim_told(making, claim, reader, act[2])


def acts_of(making, events):
    """Tell events as a list of tuples (word, hand, worth, deed), hand and deed by their numbers.

    The worth is NO_WORTH where the event has none. What are no events is refused with NoEvents.
    """
    if not isinstance(events, list):
        raise NoEvents(0)
    names = [hand[0] for hand in making[4]]
    going = {}
    acts = []
    begun = 0
    for number, event in enumerate(events):
        if not is_event(event, names, making[1]):
            raise NoEvents(number)
        hand = names.index(event[1])
        if (event[0] == "begin") == (hand in going):
            raise NoEvents(number)
        if event[0] == "begin":
            going[hand] = begun
            begun += 1
        acts.append((event[0], hand, event[2] if len(event) == 3 else NO_WORTH, going[hand]))
        if event[0] == "end":
            going.pop(hand)
    return acts


def is_event(thing, names, size):
    """Tell whether a thing is an event by itself, of hands of these names and a made box of this size."""
    if not is_tuple(thing, 2, 3) or thing[0] not in ("begin", "end") or thing[1] not in names:
        return False
    # The writer is told its worth where it begins; a reader tells one where it ends.
    if (thing[0] == "begin") == (thing[1] == names[0]):
        return len(thing) == 3 and is_whole(thing[2], 0, size - 1)
    return len(thing) == 2
