"""What the readers of the made box may still tell (points 8 and 9)."""

# No worth is coming; and, in a case of a whole box, a reader does not read.
NONE = -1
# In a case of a whole box: the writing that goes on had its moment; a reading had none yet.
HAD = -2
WAITS = -2


def claim_begun(making):
    """Tell the claim at first."""
    readers = len(making[4]) - 1
    if making[0] == "whole":
        return ((making[2], NONE, (NONE,) * readers),)
    return (making[2], NONE, (None,) * readers)


def claim_writes(making, claim, worth):
    """Tell the claim behind the begin of a writing of a worth."""
    if making[0] == "whole":
        return closed([case_begun(case, 0, worth) for case in claim])
    tells = [told if told is None else beside(making[0], making[1], told, worth) for told in claim[2]]
    return (claim[0], worth, tuple(tells))


def claim_written(making, claim):
    """Tell the claim behind the end of the writing."""
    if making[0] == "whole":
        return closed(cases_ended(claim, 0, NONE))
    return (claim[1], NONE, claim[2])


def claim_reads(making, claim, reader):
    """Tell the claim behind the begin of a reading."""
    if making[0] == "whole":
        return closed([case_begun(case, reader + 1, NONE) for case in claim])
    told = (claim[0],)
    if claim[1] != NONE:
        told = beside(making[0], making[1], told, claim[1])
    return (claim[0], claim[1], with_thing(claim[2], reader, told))


def claim_told(making, claim, reader, worth):
    """Tell the claim behind the end of a reading that tells a worth, or None where it may not tell it."""
    if making[0] == "whole":
        left = cases_ended(claim, reader + 1, worth)
        return closed(left) if left else None
    if worth not in claim[2][reader]:
        return None
    return (claim[0], claim[1], with_thing(claim[2], reader, None))


def beside(kind, size, worths, coming):
    """Tell what may be told of a weak box by one who might tell these worths, where one is coming, too."""
    if kind == "safe":
        return tuple(range(size))
    return tuple(sorted(set(worths + (coming,))))


def with_thing(things, place, thing):
    """Tell a tuple with another thing at a place."""
    return things[:place] + (thing,) + things[place + 1:]


def case_begun(case, hand, worth):
    """Tell the case of a whole box behind the begin of a hand's deed; the worth is that of a writing."""
    if hand == 0:
        return (case[0], worth, case[2])
    return (case[0], case[1], with_thing(case[2], hand - 1, WAITS))


def case_ended(case, hand, worth):
    """Tell the case behind the end of a hand's deed, or None where it can't end so; the worth is told by a reading."""
    if hand == 0:
        return (case[0], NONE, case[2]) if case[1] == HAD else None
    return (case[0], case[1], with_thing(case[2], hand - 1, NONE)) if case[2][hand - 1] == worth else None


def cases_ended(cases, hand, worth):
    """Tell the list of those cases that are left behind the end of a hand's deed."""
    ended = [case_ended(case, hand, worth) for case in cases]
    return [case for case in ended if case is not None]


def closed(cases):
    """Tell the claim of these cases and all to which moments lead."""
    return tuple(sorted(reached(cases)))


def reached(cases):
    """Tell a dict of these cases and all to which moments lead, each behind the one from which it was reached.

    A case has None where it was there, else a tuple (hand, case): whose moment led to it, and from where.
    """
    ways = {}
    for case in cases:
        ways[case] = None
    waiting = list(ways)
    while waiting:
        case = waiting.pop()
        for hand, later in moments_from(case):
            if later not in ways:
                ways[later] = (hand, case)
                waiting.append(later)
    return ways


def moments_from(case):
    """Tell a list of tuples (hand, case): whose moment leads from a case to which one."""
    later = []
    if case[1] >= 0:
        later.append((0, (case[1], HAD, case[2])))
    for reader, told in enumerate(case[2]):
        if told == WAITS:
            later.append((reader + 1, (case[0], case[1], with_thing(case[2], reader, case[0]))))
    return later
