"""Papers: which claims cover others, and the check of a paper (points 17 and 18)."""

from strongboxes.built import is_stand
from strongboxes.errors import NoPaper
from strongboxes.plans import Plan
from strongboxes.stands import moved, moves_of, stand_begun

NOWHERE = -1


class Cover:
    """The stands of a paper, to be asked what they cover."""

    def __init__(self, making, stands):
        self.making = making
        self.groups = {}
        # Most of what is asked for is there to the letter, and the same is asked for many times.
        self.known = {}
        for stand in stands:
            self.groups.setdefault(stand[:2], []).append(stand[2])
            self.known[stand] = True

    def takes_in(self, stand):
        """Tell whether some stand of the paper covers a stand."""
        if stand not in self.known:
            self.known[stand] = some_covers(self.making, self.groups.get(stand[:2], []), stand[2])
        return self.known[stand]


def covers(making, one, other):
    """Tell whether a claim covers another one."""
    if making[0] == "whole":
        return are_among(one, other)
    if one[:2] != other[:2]:
        return False
    return all([lets_no_more(first, second) for first, second in zip(one[2], other[2])])


def lets_no_more(one, other):
    """Tell whether what one claim says of a reader lets it tell nothing that the other's does not."""
    if one is None or other is None:
        return one is None and other is None
    return are_among(one, other)


def are_among(ones, others):
    """Tell whether each thing of a tuple is one of another tuple."""
    return len(set(ones) - set(others)) == 0


def some_covers(making, claims, claim):
    """Tell whether one of a list of claims covers a claim."""
    for one in claims:
        if covers(making, one, claim):
            return True
    return False


def check_paper(making, paper):
    """Tell None of a paper that bears a making out, and refuse what is none with NoPaper."""
    if not isinstance(paper, list):
        raise NoPaper(NOWHERE)
    plan = Plan(making)
    well = [is_stand(plan, entry) for entry in paper]
    cover = Cover(making, [entry for entry, holds in zip(paper, well) if holds])
    if not cover.takes_in(stand_begun(plan)):
        raise NoPaper(NOWHERE)
    if not all(well):
        raise NoPaper(well.index(False))
    for number, stand in enumerate(paper):
        if not leads_within(plan, cover, stand):
            raise NoPaper(number)


def leads_within(plan, cover, stand):
    """Tell whether no step from a stand breaks or leads to what the paper does not cover."""
    for move in moves_of(plan, stand):
        told = moved(plan, stand, move)
        if told[1] is not None or not cover.takes_in(told[0]):
            return False
    return True
