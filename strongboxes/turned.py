"""Makings with one thing turned, and what of a making is needless (points 20 and 21)."""

from strongboxes.claims import with_thing
from strongboxes.errors import NoMaking, TooMany
from strongboxes.makings import KINDS, check_making
from strongboxes.seek import seek


def turned(making):
    """Tell the list of tuples (what, making) of the makings with one thing turned."""
    found = weaker_ones(making) + ones_with_less(making) + exchanged_ones(making)
    return [one for one in found if one[1] != making and is_let_by(one[1])]


def needless(making, most):
    """Tell the list of what can be turned so that seek still tells a paper."""
    return [what for what, other in turned(making) if has_paper(other, most)]


def is_let_by(making):
    """Tell whether check_making lets a thing by."""
    try:
        check_making(making)
    except NoMaking:
        return False
    return True


def has_paper(making, most):
    """Tell whether seek tells a paper of a making."""
    try:
        return seek(making, most)[0] == "paper"
    except TooMany:
        return False


def weaker_ones(making):
    """Tell those in which one box is of the next weaker kind."""
    found = []
    for place, box in enumerate(making[3]):
        if box[1] != "safe":
            weaker = with_thing(box, 1, KINDS[KINDS.index(box[1]) - 1])
            found.append((("weaker", box[0]), with_thing(making, 3, with_thing(making[3], place, weaker))))
    return found


def ones_with_less(making):
    """Tell those without one row."""
    found = []
    for number, hand in enumerate(making[4]):
        for at in range(len(hand[2])):
            rows = [pulled_up(row, at) for row in hand[2][:at] + hand[2][at + 1:]]
            found.append((("less", hand[0], at), with_rows(making, number, tuple(rows))))
    return found


def pulled_up(row, at):
    """Tell a row whose target is one less where it is above a row's number."""
    # The target is the last part of both rows that have one.
    if row[0] in ("jump", "unless") and row[-1] > at:
        return row[:-1] + (row[-1] - 1,)
    return row


def exchanged_ones(making):
    """Tell those in which one row and the next are exchanged."""
    found = []
    for number, hand in enumerate(making[4]):
        rows = hand[2]
        for at in range(len(rows) - 1):
            later = rows[:at] + (rows[at + 1], rows[at]) + rows[at + 2:]
            found.append((("other", hand[0], at), with_rows(making, number, later)))
    return found


def with_rows(making, number, rows):
    """Tell a making with other rows of one hand."""
    hand = with_thing(making[4][number], 2, rows)
    return with_thing(making, 4, with_thing(making[4], number, hand))
