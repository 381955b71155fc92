"""Orders of deeds, as if each were done at one moment (point 25)."""

from strongboxes.claims import NONE, case_begun, case_ended, reached
from strongboxes.exprs import is_whole
from strongboxes.judge import acts_of
from strongboxes.makings import are_unlike


def bears_out(making, events, order):
    """Tell whether an order bears events out; False of what is no order, and NoEvents of what are no events."""
    deeds = deeds_of(acts_of(making, events))
    if not is_order(order, len(deeds)):
        return False
    return has_ended_ones(deeds, order) and keeps_times(deeds, order) and keeps_worths(deeds, order, making[2])


def deeds_of(acts):
    """Tell the list of deeds, each a list [hand, worth, begin, end].

    The worth is the one that is written, or told at the end; begin and end are the places of those acts, end None
    where the deed goes on.
    """
    deeds = []
    for place, act in enumerate(acts):
        if act[0] == "begin":
            deeds.append([act[1], act[2], place, None])
        else:
            deed = deeds[act[3]]
            deed[3] = place
            if act[1] > 0:
                deed[1] = act[2]
    return deeds


def is_order(thing, count):
    """Tell whether a thing is an order of so many deeds."""
    # Only whole numbers are looked at together: other things may have no hash.
    return isinstance(thing, list) and all([is_whole(part, 0, count - 1) for part in thing]) and are_unlike(thing)


def has_ended_ones(deeds, order):
    """Tell whether each deed that ended is in the order."""
    there = {}
    for number in order:
        there[number] = True
    return all([number in there for number, deed in enumerate(deeds) if deed[3] is not None])


def keeps_times(deeds, order):
    """Tell whether no deed that ended ahead of another one's begin stands behind that."""
    latest = -1
    for number in order:
        deed = deeds[number]
        if deed[3] is not None and deed[3] < latest:
            return False
        latest = max(latest, deed[2])
    return True


def keeps_worths(deeds, order, begin):
    """Tell whether each reading that ended tells the worth of the last writing ahead of it."""
    worth = begin
    for number in order:
        deed = deeds[number]
        if deed[0] == 0:
            worth = deed[1]
        elif deed[3] is not None and deed[1] != worth:
            return False
    return True


def moments_of(making, events):
    """Tell an order that bears events out, or None where none does; refuse what are no events with NoEvents."""
    readers = len(making[4]) - 1
    # One way to each case is enough: what may come behind it hangs on the case alone.
    paths = {(making[2], NONE, (NONE,) * readers): None}
    going = {}
    for act in acts_of(making, events):
        going[act[1]] = act[3]
        paths = with_moments(paths_behind(paths, act), going)
    if not paths:
        return None
    return order_of(list(paths.values())[0])


def paths_behind(paths, act):
    """Tell the paths to those cases that are left behind an act."""
    later = {}
    for case, path in paths.items():
        if act[0] == "begin":
            behind = case_begun(case, act[1], act[2])
        else:
            behind = case_ended(case, act[1], act[2])
        if behind is not None:
            later[behind] = path
    return later


def with_moments(paths, going):
    """Tell the paths and those to all cases to which moments lead; going has the deed that each hand does."""
    found = {}
    for case, way in reached(list(paths)).items():
        if way is None:
            found[case] = paths[case]
        else:
            found[case] = (going[way[0]], found[way[1]])
    return found


def order_of(path):
    """Tell the list of deeds of a path: None, or a tuple of the last deed and the path ahead of it."""
    order = []
    while path is not None:
        order.append(path[0])
        path = path[1]
    order.reverse()
    return order
