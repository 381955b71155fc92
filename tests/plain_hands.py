"""A plainer way to go through a making: things that change, everything asked anew; and makings to try it on."""

from programs import STEADY_OF_BITS, STEADY_OF_SAFE, passed_on, with_box_kind, with_kind
from strongboxes.claims import claim_begun, claim_reads, claim_told, claim_writes, claim_written
from strongboxes.errors import NoMaking
from strongboxes.makings import check_making

PAIRS = {
    "+": lambda one, other: min(9, one + other),
    "-": lambda one, other: max(0, one - other),
    "=": lambda one, other: int(one == other),
    "<": lambda one, other: int(one < other),
    "and": lambda one, other: int(bool(one and other)),
    "or": lambda one, other: int(bool(one or other)),
}


def names_in(thing):
    """The names of all variables of a row or an expression."""
    if not isinstance(thing, tuple):
        return set()
    if thing[0] == "var":
        return {thing[1]}
    own = {thing[1]} if thing[0] in ("get", "let") else set()
    return own.union(*(names_in(part) for part in thing[1:]))


def value(expression, numbers):
    word = expression[0]
    if word == "num":
        return expression[1]
    if word == "var":
        return numbers[expression[1]]
    if word == "not":
        return int(not value(expression[1], numbers))
    return PAIRS[word](value(expression[1], numbers), value(expression[2], numbers))


class Broken(Exception):
    """How a step breaks."""


class Box:
    def __init__(self, name, kind, size, begin, hand):
        self.name, self.kind, self.size, self.worth, self.hand = name, kind, size, begin, hand
        self.coming = None

    def widened(self, may, worth):
        return set(range(self.size)) if self.kind == "safe" else may | {worth}


class Hand:
    def __init__(self, name, within, rows, writes):
        self.name, self.within, self.rows, self.writes = name, within, rows, writes
        self.numbers = dict.fromkeys(sorted(set().union(*map(names_in, rows)) - {"v"}), 0)
        self.rest()

    def rest(self):
        self.row, self.may, self.puts, self.worth, self.count = None, None, False, 0, 0

    def tells(self):
        half = () if self.puts else None if self.may is None else tuple(sorted(self.may))
        numbers = tuple(self.numbers[name] for name in sorted(self.numbers))
        return (-1 if self.row is None else self.row, half, self.worth, self.count, numbers)

    def asked(self, expression):
        return value(expression, {**self.numbers, "v": self.worth})


class PlainHands:
    """A making and where a weaving led it."""

    def __init__(self, making):
        self.making = making
        self.boxes = {box[0]: Box(*box) for box in making[3]}
        self.hands = {hand[0]: Hand(*hand, number == 0) for number, hand in enumerate(making[4])}
        self.claim = claim_begun(making)
        self.events = []
        self.broken = None

    def stand(self):
        boxes = tuple((box.worth, -1 if box.coming is None else box.coming) for box in self.boxes.values())
        return (tuple(hand.tells() for hand in self.hands.values()), boxes, self.claim)

    def steps(self):
        steps = []
        for hand in self.hands.values():
            picks = [0]
            if hand.row is None and hand.writes:
                picks = range(self.making[1])
            elif hand.may is not None:
                picks = sorted(hand.may)
            steps.extend((hand.name, pick) for pick in picks)
        return steps

    def take(self, step):
        """Take a step; tell its events."""
        before = len(self.events)
        try:
            self.act(self.hands[step[0]], step[1])
        except Broken as broken:
            self.broken = (str(broken), step[0])
        return self.events[before:]

    def act(self, hand, pick):
        if hand.row is None:
            self.begin(hand, pick)
        else:
            hand.count += 1
            if hand.count > hand.within:
                raise Broken("long")
            if not self.deed_done(hand, hand.rows[hand.row], pick):
                return
            hand.row += 1
        self.go_on(hand)

    def begin(self, hand, pick):
        hand.row = 0
        if hand.writes:
            hand.worth = pick
            self.claim = claim_writes(self.making, self.claim, pick)
            self.events.append(("begin", hand.name, pick))
        else:
            self.claim = claim_reads(self.making, self.claim, self.reader(hand))
            self.events.append(("begin", hand.name))

    def reader(self, hand):
        return list(self.hands).index(hand.name) - 1

    def deed_done(self, hand, row, pick):
        """Whether the put or get of the row is done behind this step."""
        box = self.boxes[row[1] if row[0] == "put" else row[2]]
        if row[0] == "get":
            return self.got(hand, row[1], box, pick)
        if hand.puts:
            hand.puts = False
            box.worth, box.coming = box.coming, None
            return True
        worth = hand.asked(row[2])
        if worth not in range(box.size):
            raise Broken("great")
        if box.kind == "whole":
            box.worth = worth
            return True
        hand.puts, box.coming = True, worth
        for other in self.hands.values():
            if other.may is not None and other.rows[other.row][2] == box.name:
                other.may = box.widened(other.may, worth)
        return False

    def got(self, hand, name, box, pick):
        if box.kind == "whole":
            hand.numbers[name] = box.worth
            return True
        if hand.may is None:
            hand.may = {box.worth}
            if box.coming is not None:
                hand.may = box.widened(hand.may, box.coming)
            return False
        hand.numbers[name], hand.may = pick, None
        return True

    def go_on(self, hand):
        seen = set()
        while hand.row < len(hand.rows):
            row = hand.rows[hand.row]
            if row[0] in ("put", "get"):
                return
            if row[0] in ("tell", "done"):
                break
            place = (hand.row, tuple(hand.numbers.items()))
            if place in seen:
                raise Broken("stuck")
            seen.add(place)
            hand.row += 1
            if row[0] == "let":
                hand.numbers[row[1]] = hand.asked(row[2])
            elif row[0] == "jump":
                hand.row = row[1]
            elif hand.asked(row[1]) == 0:
                hand.row = row[2]
        self.end(hand)

    def end(self, hand):
        if hand.writes:
            self.claim = claim_written(self.making, self.claim)
            self.events.append(("end", hand.name))
        else:
            if hand.row == len(hand.rows):
                raise Broken("silent")
            told = hand.asked(hand.rows[hand.row][1])
            if told not in range(self.making[1]):
                raise Broken("great")
            self.events.append(("end", hand.name, told))
            self.claim = claim_told(self.making, self.claim, self.reader(hand), told)
            if self.claim is None:
                raise Broken("tells")
        hand.rest()


def behind(making, weaving):
    """The things behind a weaving."""
    plain = PlainHands(making)
    for step in weaving:
        plain.take(step)
    return plain


def some_weaving(making, length, chance):
    """A weaving of so many steps by chance, or up to its break."""
    plain = PlainHands(making)
    weaving = []
    while len(weaving) < length and not plain.broken:
        weaving.append(chance.choice(plain.steps()))
        plain.take(weaving[-1])
    return weaving


def some_expression(chance, names, deep):
    if deep < 2 or chance.random() < 0.5:
        return ("var", chance.choice(names)) if chance.random() < 0.6 else ("num", chance.choice((0, 0, 1, 1, 2, 3)))
    word = chance.choice(("not", "+", "-", "=", "<", "and", "or"))
    parts = 1 if word == "not" else 2
    return (word,) + tuple(some_expression(chance, names, deep - 1) for _ in range(parts))


def some_rows(chance, number, boxes, own, length):
    """Rows of the hand with a number that writes the boxes of its own."""
    names = ("x", "y", "v") if number == 0 else ("x", "y")
    words = ["let", "unless", "jump"] + ["get"] * 3 * bool(boxes) + ["put"] * 4 * bool(own)
    words += ["done"] if number == 0 else ["tell"] * 2
    rows = []
    for _ in range(length):
        word = chance.choice(words)
        expression = some_expression(chance, names, 3)
        # Targets lead on more often than back, so that most hands end their deeds.
        target = chance.randint(0 if chance.random() < 0.3 else min(len(rows) + 1, length), length)
        rows.append({
            "put": lambda: ("put", chance.choice(own), expression),
            "get": lambda: ("get", chance.choice("xy"), chance.choice(boxes)),
            "let": lambda: ("let", chance.choice("xy"), expression),
            "unless": lambda: ("unless", expression, target),
            "jump": lambda: ("jump", target),
            "tell": lambda: ("tell", chance.choice((expression, ("var", "x")))),
            "done": lambda: ("done",),
        }[word]())
    if number > 0 and rows:
        rows[-1] = ("tell", ("var", "x"))
    return tuple(rows)


def some_making(chance, kinds=("safe", "steady", "whole")):
    """A making by chance, of few boxes and short rows."""
    hands = "wrst"[:chance.choice((2, 2, 3, 4))]
    size = chance.choice((2, 2, 3))
    boxes = []
    for name in "bcd"[:chance.choice((0, 1, 1, 2, 3))]:
        worths = chance.choice((2, 2, 3))
        writer = "w" if chance.random() < 0.7 else chance.choice(hands)
        boxes.append((name, chance.choice(("safe", "steady", "whole")), worths, chance.randrange(worths), writer))
    made = []
    for number, name in enumerate(hands):
        own = [box[0] for box in boxes if box[4] == name]
        rows = some_rows(chance, number, [box[0] for box in boxes], own, chance.randint(0, 6))
        made.append((name, chance.choice((1, 2, 4, 8, 12)), rows))
    making = (chance.choice(kinds), size, chance.randrange(size), tuple(boxes), tuple(made))
    check_making(making)
    return making


def near_making(chance):
    """A making that holds, or one near it: makings by mere chance hardly ever hold."""
    kinds = ("safe", "steady", "whole")
    kind, box = sorted((chance.choice(kinds), chance.choice(kinds)))[::chance.choice((1, 1, -1))]
    base = chance.choice((
        passed_on(kind, box), passed_on(kind, box, begin=1), passed_on(kind, box, 3), passed_on(kind, box, 2, 2),
        STEADY_OF_SAFE, with_kind(STEADY_OF_SAFE, kind), with_box_kind(STEADY_OF_SAFE, 0, box), STEADY_OF_BITS,
    ))
    if chance.random() < 0.3:
        return base
    while True:
        making = with_row_changed(base, chance)
        try:
            check_making(making)
            return making
        except NoMaking:
            continue


def with_row_changed(making, chance):
    """A making with one row more, less or elsewhere, perhaps none that is let by."""
    number = chance.randrange(len(making[4]))
    name, within, rows = making[4][number]
    place = chance.randrange(len(rows))
    box = making[3][0][0]
    rows = chance.choice((
        rows[:place] + rows[place + 1:],
        rows[:place] + (("let", "y", ("num", 1)),) + rows[place:],
        rows[:place] + (("get", "y", box),) + rows[place:],
        rows[:place] + (rows[place],) + rows[place:],
        rows[:place] + rows[place:][::-1],
    ))
    hands = making[4][:number] + ((name, within + chance.choice((0, 0, 2, 4)), rows),) + making[4][number + 1:]
    return making[:4] + (hands,)
