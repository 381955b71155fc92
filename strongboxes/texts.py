"""The text of a making, written and read (point 7)."""

from strongboxes.errors import NoText
from strongboxes.exprs import PAIR_WORDS, is_name
from strongboxes.makings import KINDS, LEAST_HANDS, MOST_BOXES, MOST_HANDS, MOST_ROWS, PARTS, check_making

FIGURES = "0123456789"
MOST_FIGURES = 3

# What stands behind the word of a row that belongs to no program.
HEAD_PARTS = {
    "makes": ("kind", "number", "number"),
    "box": ("name", "kind", "number", "number", "name"),
    "hand": ("name", "number"),
}


class Reading:
    """What the rows of a text have told so far."""

    def __init__(self):
        self.made = None
        self.boxes = []
        self.hands = []
        self.programs = []

    def lets_stand(self, word):
        """Tell whether a row of this word may stand behind those that were read."""
        if word == "makes":
            return self.made is None
        if self.made is None:
            return False
        if word == "box":
            return len(self.hands) == 0 and len(self.boxes) < MOST_BOXES
        if word == "hand":
            return len(self.hands) < MOST_HANDS
        return len(self.hands) > 0 and len(self.programs[-1]) < MOST_ROWS

    def take(self, row):
        """Keep what a row tells."""
        if row[0] == "makes":
            self.made = row[1:]
        elif row[0] == "box":
            self.boxes.append(row[1:])
        elif row[0] == "hand":
            self.hands.append(row[1:])
            self.programs.append([])
        else:
            self.programs[-1].append(row)

    def told_making(self):
        """Tell all that was told as one tuple."""
        hands = [hand + (tuple(rows),) for hand, rows in zip(self.hands, self.programs)]
        return self.made + (tuple(self.boxes), tuple(hands))


def shown_making(making):
    """Tell the text of a making."""
    rows = [("makes",) + making[:3]]
    for box in making[3]:
        rows.append(("box",) + box)
    for hand in making[4]:
        rows.append(("hand",) + hand[:2])
        rows.extend(hand[2])
    return "\n".join([shown_row(row) for row in rows])


def shown_row(row):
    """Tell the text of a row."""
    words = [row[0]]
    for thing in turned_round(row[0], row[1:]):
        words.extend(words_of(thing))
    return " ".join(words)


def turned_round(word, parts):
    """Tell the parts behind a row's word as the text has them from those of the tuple, and the other way."""
    # An expression goes on to the row's end, so the target of an unless is written ahead of it.
    return parts[::-1] if word == "unless" else parts


def words_of(thing):
    """Tell the list of words of a name, a number or an expression."""
    if not isinstance(thing, tuple):
        return [str(thing)]
    if thing[0] in ("num", "var"):
        return [str(thing[1])]
    words = [thing[0]]
    for part in thing[1:]:
        words.extend(words_of(part))
    return words


def read_making(text):
    """Tell the making of a text; refuse with NoText what is none, and with NoMaking what reads as no making."""
    if not isinstance(text, str):
        raise NoText(0)
    lines = text.split("\n")
    reading = Reading()
    for number, line in enumerate(lines):
        row = read_row(line)
        if row is None or not reading.lets_stand(row[0]):
            raise NoText(number)
        reading.take(row)
    if len(reading.hands) < LEAST_HANDS:
        raise NoText(len(lines))
    making = reading.told_making()
    check_making(making)
    return making


def read_row(line):
    """Tell the tuple of a row's word and the things behind it, or None of what is no row by its words."""
    words = line.split(" ")
    parts = HEAD_PARTS.get(words[0], PARTS.get(words[0]))
    if parts is None:
        return None
    things = read_parts(turned_round(words[0], parts), words[1:])
    if things is None:
        return None
    return (words[0],) + turned_round(words[0], tuple(things))


def read_parts(parts, words):
    """Tell the list of what words say of these parts, or None where they are not the words of such parts."""
    if "expression" in parts:
        # It stands last, and all words that the others leave are its own.
        ahead = len(parts) - 1
        words = words[:ahead] + [words[ahead:]]
    if len(words) != len(parts):
        return None
    things = [read_part(part, word) for part, word in zip(parts, words)]
    return None if any([thing is None for thing in things]) else things


def read_part(part, word):
    """Tell what a word, or an expression's list of words, says of a part, or None."""
    if part == "expression":
        return read_expression(word)
    if part in ("number", "target"):
        return read_number(word, MOST_FIGURES)
    if part == "kind":
        return word if word in KINDS else None
    return word if is_name(word) else None


def read_number(word, most_figures):
    """Tell the number that a word of at most so many figures is, or None."""
    if not 1 <= len(word) <= most_figures or not all([sign in FIGURES for sign in word]):
        return None
    if word[0] == "0" and word != "0":
        return None
    return int(word)


def read_expression(words):
    """Tell the expression of a list of words, or None where they are not the words of one."""
    # Read from behind, each word finds what stands within it ready, however deep that is.
    ready = []
    for word in reversed(words):
        expression = read_ground(word)
        if expression is None:
            expression = read_nest(word, ready)
        if expression is None:
            return None
        ready.append(expression)
    return ready[0] if len(ready) == 1 else None


def read_ground(word):
    """Tell the expression of a figure or of a variable's name, or None."""
    if word in PAIR_WORDS or word == "not":
        return None
    if is_name(word):
        return ("var", word)
    return ("num", int(word)) if len(word) == 1 and word in FIGURES else None


def read_nest(word, ready):
    """Tell the expression of a word and what it takes from the end of those that are ready, or None."""
    if word in PAIR_WORDS and len(ready) >= 2:
        first = ready.pop()
        return (word, first, ready.pop())
    if word == "not" and len(ready) >= 1:
        return (word, ready.pop())
    return None
