"""One making put upon another: a box of the outer one made by the inner one (point 19)."""

from strongboxes.errors import NoMaking, NoUpon
from strongboxes.exprs import LETTERS
from strongboxes.makings import KINDS, NO_VARIABLES, PARTS, check_making
from strongboxes.plans import variables_of_rows


class Names:
    """The names that may still be given."""

    def __init__(self, outer):
        self.taken = {"v": True}
        for name in NO_VARIABLES:
            self.taken[name] = True
        for box in outer[3]:
            self.taken[box[0]] = True
        for hand in outer[4]:
            for name in variables_of_rows(hand[2]):
                self.taken[name] = True
        self.tried = 0

    def give_one(self):
        """Tell a new name."""
        name = name_numbered(self.tried)
        while name in self.taken:
            self.tried += 1
            name = name_numbered(self.tried)
        self.taken[name] = True
        return name

    def give(self, olds):
        """Tell a dict from old names to new ones."""
        news = {}
        for old in olds:
            news[old] = self.give_one()
        return news


def name_numbered(number):
    """Tell the name with a number, from 0, of a, b, .., z, aa, ab, .."""
    name = LETTERS[number % len(LETTERS)]
    while number >= len(LETTERS):
        number = number // len(LETTERS) - 1
        name = LETTERS[number % len(LETTERS)] + name
    return name


def put_upon(outer, name, inner):
    """Tell the making in which a box of outer is made by inner; refuse with NoUpon what can't be put so."""
    places = [place for place, box in enumerate(outer[3]) if box[0] == name]
    if len(places) == 0:
        raise NoUpon("outer has no such box")
    box = outer[3][places[0]]
    getters = [hand[0] for hand in outer[4] if has_row(hand, "get", name)]
    check_fit(box, inner, len(getters))
    names = Names(outer)
    box_names = names.give([old[0] for old in inner[3]])
    variables = [names.give(sorted(variables_of_rows(inner[4][0][2]) + ["v"]))]
    for number in range(len(getters)):
        variables.append(names.give(variables_of_rows(inner[4][number + 1][2])))
    boxes = outer[3][:places[0]] + boxes_within(inner, box_names, box[4], getters) + outer[3][places[0] + 1:]
    hands = [hand_upon(hand, name, inner, (box_names, variables, getters)) for hand in outer[4]]
    making = outer[:3] + (boxes, tuple(hands))
    try:
        check_making(making)
    except NoMaking:
        raise NoUpon("the making would be none") from None
    return making


def has_row(hand, word, name):
    """Tell whether a hand has a row that puts, or gets, a box."""
    return any([row[0] == word and box_in(row) == name for row in hand[2]])


def box_in(row):
    """Tell the name of the box that a row puts or gets, or None."""
    if row[0] == "put":
        return row[1]
    return row[2] if row[0] == "get" else None


def check_fit(box, inner, getters):
    """Refuse with NoUpon where inner does not make such a box for so many hands that get it."""
    if inner[1:3] != box[2:4]:
        raise NoUpon("the inner making has another size or begin")
    if KINDS.index(inner[0]) < KINDS.index(box[1]):
        raise NoUpon("the inner making makes a weaker kind")
    if len(inner[4]) - 1 < getters:
        raise NoUpon("the inner making has too few readers")


def boxes_within(inner, box_names, writer, getters):
    """Tell inner's boxes under their new names, written by the hands that have their hands' rows."""
    having = [writer] + getters
    writers = {}
    for number, hand in enumerate(inner[4]):
        writers[hand[0]] = having[number] if number < len(having) else writer
    return tuple([(box_names[box[0]],) + box[1:4] + (writers[box[4]],) for box in inner[3]])


def hand_upon(hand, name, inner, given):
    """Tell a hand of outer with inner's rows; given has the new names of boxes and variables, and who gets the box."""
    box_names = given[0]
    variables = given[1]
    replaced = {}
    for number, row in enumerate(hand[2]):
        if box_in(row) != name:
            continue
        if row[0] == "put":
            replaced[number] = put_rows(row[2], inner[4][0][2], variables[0], box_names)
        else:
            reader = given[2].index(hand[0]) + 1
            replaced[number] = get_rows(row[1], inner[4][reader][2], variables[reader], box_names)
    if len(replaced) == 0:
        return hand
    times = max([other[1] for other in inner[4]])
    return (hand[0], hand[1] * times if times > 0 else hand[1], rows_upon(hand[2], replaced))


def put_rows(expression, rows, variables, box_names):
    """Tell the list of rows in the place of a put, their targets counted from the first of them."""
    parts = [[("let", variables["v"], expression)]]
    for row in rows:
        parts.append([("jump", len(rows)) if row[0] == "done" else renamed_row(row, variables, box_names)])
    # The let stands ahead of inner's rows, so their numbers begin behind it.
    return joined(parts, starts_of(parts)[1:])


def get_rows(name, rows, variables, box_names):
    """Tell the list of rows in the place of a get, their targets counted from the first of them."""
    parts = []
    for row in rows:
        if row[0] == "tell":
            parts.append([("let", name, renamed(row[1], variables)), ("jump", len(rows))])
        else:
            parts.append([renamed_row(row, variables, box_names)])
    return joined(parts, starts_of(parts))


def renamed_row(row, variables, box_names):
    """Tell a row with the new names of its box and variables."""
    things = [row[0]]
    for part, thing in zip(PARTS[row[0]], row[1:]):
        if part == "box":
            things.append(box_names[thing])
        elif part == "variable":
            things.append(variables[thing])
        else:
            things.append(renamed(thing, variables) if part == "expression" else thing)
    return tuple(things)


def renamed(expression, variables):
    """Tell an expression with the new names of its variables."""
    if expression[0] == "num":
        return expression
    if expression[0] == "var":
        return ("var", variables[expression[1]])
    return expression[:1] + tuple([renamed(part, variables) for part in expression[1:]])


def starts_of(parts):
    """Tell the list of the numbers at which the rows of each part begin, and how many there are of all."""
    starts = [0]
    for part in parts:
        starts.append(starts[-1] + len(part))
    return starts


def joined(parts, starts):
    """Tell the list of the rows of all parts, each target led to where its row begins."""
    rows = []
    for part in parts:
        rows.extend([led(row, starts) for row in part])
    return rows


def led(row, starts):
    """Tell a row whose target is where the row with that number begins now."""
    if row[0] == "jump":
        return ("jump", starts[row[1]])
    return ("unless", row[1], starts[row[2]]) if row[0] == "unless" else row


def rows_upon(rows, replaced):
    """Tell the rows of a hand; replaced has, by the numbers of some of them, the lists that come in their place."""
    parts = [replaced.get(number, [row]) for number, row in enumerate(rows)]
    starts = starts_of(parts)
    later = []
    for number, part in enumerate(parts):
        # The targets of what comes in a row's place are counted from its own first row.
        leads = list(range(starts[number], starts[number + 1] + 1)) if number in replaced else starts
        later.extend([led(row, leads) for row in part])
    return tuple(later)
