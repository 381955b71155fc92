"""Makings by their texts, for the tests of stands, weavings, papers and the desk."""

from strongboxes.texts import read_making


def made(*rows):
    """The making of these rows; rows may also stand in one text, parted by commas."""
    return read_making("\n".join(row.strip() for part in rows for row in part.split(",")))


def passed_on(kind, box, size=2, readers=1, within=2, begin=0):
    """A made box that is one box, put and got as it stands."""
    hands = [f"hand {name} {within}, get x b, tell x" for name in "rst"[:readers]]
    return made(f"makes {kind} {size} {begin}", f"box b {box} {size} {begin} w", f"hand w {within}, put b v", *hands)


def with_kind(making, kind):
    """A making with another made kind."""
    return (kind,) + making[1:]


def with_box_kind(making, place, kind):
    """A making with another kind of one of its boxes."""
    box = making[3][place]
    boxes = making[3][:place] + ((box[0], kind) + box[2:],) + making[3][place + 1:]
    return making[:3] + (boxes,) + making[4:]


# A steady box of two worths from a safe one: only a new worth is put.
STEADY_OF_SAFE = made(
    "makes steady 2 0, box b safe 2 0 w",
    "hand w 2, unless 3 not = v old, put b v, let old v",
    "hand r 2, get x b, tell x",
)

# A steady box of three worths: a box for each worth, cleared from the worth that is written downwards.
STEADY_OF_BITS = made(
    "makes steady 3 0, box a steady 2 1 w, box b steady 2 0 w, box c steady 2 0 w",
    "hand w 6, unless 3 = v 0, put a 1, done, unless 7 = v 1, put b 1, put a 0, done, put c 1, put b 0, put a 0",
    "hand r 4, get x a, unless 3 x, tell 0, get x b, unless 6 x, tell 1, tell 2",
)
