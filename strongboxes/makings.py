"""Makings, and the refusal of what is none (points 5 and 6)."""

from strongboxes.errors import NoMaking
from strongboxes.exprs import DEEPEST, is_expression, is_name, is_whole, variables_in

KINDS = ("safe", "steady", "whole")
MOST_BOXES = 6
LEAST_HANDS = 2
MOST_HANDS = 4
MOST_ROWS = 60
MOST_WITHIN = 400
LEAST_SIZE = 2
MOST_SIZE = 10

# What stands behind the word of a row; a target is the number of a row.
PARTS = {
    "put": ("box", "expression"),
    "get": ("variable", "box"),
    "let": ("variable", "expression"),
    "unless": ("expression", "target"),
    "jump": ("target",),
    "tell": ("expression",),
    "done": (),
}

# The text of an expression could not tell such a variable from a word.
NO_VARIABLES = ("not", "and", "or")


def check_making(making):
    """Tell None of a making, and refuse what is none with NoMaking."""
    need(is_tuple(making, 5, 5), "a making is a tuple of five parts")
    check_worths(making[0], making[1], making[2])
    check_boxes(making[3])
    check_hands(making[4])
    hand_names = [hand[0] for hand in making[4]]
    writers = {}
    for box in making[3]:
        need(box[4] in hand_names, "the hand of a box is none")
        writers[box[0]] = box[4]
    for number, hand in enumerate(making[4]):
        check_rows(hand, number == 0, writers)


def need(holds, words):
    """Refuse with NoMaking where it does not hold."""
    if not holds:
        raise NoMaking(words)


def is_tuple(thing, least, most):
    """Tell whether a thing is a tuple of least to most parts."""
    return isinstance(thing, tuple) and least <= len(thing) <= most


def check_worths(kind, size, begin):
    """Hold the three things that the made box and each other one have against point 5."""
    need(kind in KINDS, "a kind is safe, steady or whole")
    need(is_whole(size, LEAST_SIZE, MOST_SIZE), "a size is a whole number from 2 to 10")
    need(is_whole(begin, 0, size - 1), "a begin is a worth of its box")


def check_boxes(boxes):
    """Hold boxes against what is asked of them by themselves."""
    need(is_tuple(boxes, 0, MOST_BOXES), "boxes are a tuple of at most six")
    for box in boxes:
        need(is_tuple(box, 5, 5), "a box is a tuple of five parts")
        need(is_name(box[0]), "a box has a name")
        check_worths(box[1], box[2], box[3])
    need(are_unlike([box[0] for box in boxes]), "two boxes have one name")


def check_hands(hands):
    """Hold hands against what is asked of them, but of their rows."""
    need(is_tuple(hands, LEAST_HANDS, MOST_HANDS), "hands are a tuple of two to four")
    for hand in hands:
        need(is_tuple(hand, 3, 3), "a hand is a tuple of three parts")
        need(is_name(hand[0]), "a hand has a name")
        need(is_whole(hand[1], 0, MOST_WITHIN), "a told count is a whole number from 0 to 400")
        need(is_tuple(hand[2], 0, MOST_ROWS), "rows are a tuple of at most sixty")
    need(are_unlike([hand[0] for hand in hands]), "two hands have one name")


def are_unlike(names):
    """Tell whether no name stands twice in a list."""
    return len(set(names)) == len(names)


def check_rows(hand, is_writer, writers):
    """Hold the rows of a hand against points 5 and 6; writers has the writing hand of each box."""
    for row in hand[2]:
        check_form(row, len(hand[2]))
        check_ending(row[0], is_writer)
        check_variables(row, is_writer)
        if row[0] == "put":
            need(writers.get(row[1]) == hand[0], "a hand puts a box that it does not write")
        if row[0] == "get":
            need(row[2] in writers, "a hand gets a box that is none")


def check_form(row, length):
    """Hold a row of a program of this length against the kinds of its parts."""
    need(is_tuple(row, 1, 3), "a row is a tuple of one to three parts")
    # What is no text may have no hash, so it is not looked up.
    need(isinstance(row[0], str) and row[0] in PARTS, "a row begins with one of seven words")
    parts = PARTS[row[0]]
    need(len(row) == 1 + len(parts), "a row has the parts of its word")
    for part, thing in zip(parts, row[1:]):
        need(is_part(part, thing, length), f"a row has another thing than its {part}")


def is_part(part, thing, length):
    """Tell whether a thing may stand as this part of a row in a program of this length."""
    if part == "expression":
        return is_expression(thing, DEEPEST)
    if part == "target":
        return is_whole(thing, 0, length)
    return is_name(thing)


def check_ending(word, is_writer):
    """Refuse the row that ends the deeds of the other sort of hand."""
    if is_writer:
        need(word != "tell", "the writer tells nothing")
    else:
        need(word != "done", "a reader ends by telling")


def check_variables(row, is_writer):
    """Hold the variables of a row against point 6."""
    for name in variables_of(row):
        need(name not in NO_VARIABLES, "a variable is called like a word of expressions")
        need(is_writer or name != "v", "a reader has no variable v")
    if row[0] in ("get", "let"):
        need(row[1] != "v", "the variable v is set by no row")


def variables_of(row):
    """Tell the list of the names of a row's variables, as often as they stand there."""
    names = []
    for part, thing in zip(PARTS[row[0]], row[1:]):
        if part == "variable":
            names.append(thing)
        if part == "expression":
            names.extend(variables_in(thing))
    return names
