"""Makings and expressions from which the tests start."""

WORDS_OF_ROWS = ("put", "get", "let", "unless", "jump", "tell", "done")
V = ("var", "v")
X = ("var", "x")
ONE = ("num", 1)

WRITER_ROWS = (
    ("get", "x", "b"),
    ("unless", ("=", X, V), 3),
    ("done",),
    ("put", "b", V),
    ("jump", 5),
)
READER_ROWS = (
    ("get", "x", "b"),
    ("unless", ("not", ("=", X, ONE)), 3),
    ("let", "x", ("-", X, X)),
    ("tell", X),
)
BOXES = (("b", "steady", 2, 0, "w"), ("c", "safe", 3, 2, "r"))


def making_of(kind="steady", size=2, begin=0, boxes=BOXES, writer=WRITER_ROWS, reader=READER_ROWS):
    """A making of a writer w and a reader r."""
    return (kind, size, begin, boxes, (("w", 9, writer), ("r", 9, reader)))


def making_with_hands(hands, boxes=()):
    return ("steady", 2, 0, boxes, hands)


def with_part(things, place, thing):
    """A tuple with another thing at one place."""
    return things[:place] + (thing,) + things[place + 1:]


def nested(levels, ground=X):
    """An expression so many deep, alone on its way down."""
    expression = ground
    for _ in range(levels - 1):
        expression = ("not", expression)
    return expression


def full(levels, ground=X):
    """An expression so many deep on all of its ways down."""
    expression = ground
    for _ in range(levels - 1):
        expression = ("+", expression, expression)
    return expression


def watched(kind, size=2, begin=0, readers=1):
    """A making without boxes and rows, of which only the made box and its hands w, r, s, t matter."""
    return (kind, size, begin, (), tuple((name, 0, ()) for name in "wrst"[:readers + 1]))


def events_now(making, events):
    """Every event that may come next behind these."""
    later = []
    for number, hand in enumerate(making[4]):
        goes_on = len([event for event in events if event[1] == hand[0]]) % 2 == 1
        word = "end" if goes_on else "begin"
        if goes_on == (number == 0):
            later.append((word, hand[0]))
        else:
            later.extend((word, hand[0], worth) for worth in range(making[1]))
    return later


def all_events(making, length):
    """Every list of so many events that is not refused."""
    runs = [[]]
    for _ in range(length):
        runs = [run + [event] for run in runs for event in events_now(making, run)]
    return runs


def some_events(making, length, chance):
    """A list of so many events that is not refused."""
    run = []
    for _ in range(length):
        run.append(chance.choice(events_now(making, run)))
    return run


def deeds_in(making, events):
    """Each deed of events as a tuple (hand, worth, begin, end); what has not come yet is None."""
    deeds = []
    for place, event in enumerate(events):
        if event[0] == "begin":
            ends = [later for later in range(place, len(events)) if events[later][:2] == ("end", event[1])]
            tells = event if len(event) == 3 else events[ends[0]] if ends else (None,)
            deeds.append((event[1], tells[-1], place, ends[0] if ends else None))
    return deeds
