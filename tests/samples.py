"""Makings and expressions from which the tests start."""

WORDS_OF_ROWS = ("put", "get", "let", "unless", "jump", "tell", "done")
V = ("var", "v")
X = ("var", "x")
ONE = ("num", 1)

WRITER_ROWS = (
    ("get", "x", "b"),
    ("unless", ("=", X, V), 3),
    ("done",),
    ("put", "b", V),
    ("jump", 5),
)
READER_ROWS = (
    ("get", "x", "b"),
    ("unless", ("not", ("=", X, ONE)), 3),
    ("let", "x", ("-", X, X)),
    ("tell", X),
)
BOXES = (("b", "steady", 2, 0, "w"), ("c", "safe", 3, 2, "r"))


def making_of(kind="steady", size=2, begin=0, boxes=BOXES, writer=WRITER_ROWS, reader=READER_ROWS):
    """A making of a writer w and a reader r."""
    return (kind, size, begin, boxes, (("w", 9, writer), ("r", 9, reader)))


def making_with_hands(hands, boxes=()):
    return ("steady", 2, 0, boxes, hands)


def with_part(things, place, thing):
    """A tuple with another thing at one place."""
    return things[:place] + (thing,) + things[place + 1:]


def nested(levels, ground=X):
    """An expression so many deep, alone on its way down."""
    expression = ground
    for _ in range(levels - 1):
        expression = ("not", expression)
    return expression


def full(levels, ground=X):
    """An expression so many deep on all of its ways down."""
    expression = ground
    for _ in range(levels - 1):
        expression = ("+", expression, expression)
    return expression
