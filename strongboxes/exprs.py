"""Names, whole numbers and expressions, and the number of an expression (point 4)."""

LETTERS = "abcdefghijklmnopqrstuvwxyz"
GREATEST = 9
DEEPEST = 5
PAIR_WORDS = ("+", "-", "=", "<", "and", "or")


def is_whole(thing, least, most):
    """Tell whether a thing is a whole number from least to most."""
    return isinstance(thing, int) and not isinstance(thing, bool) and least <= thing <= most


def is_name(thing):
    """Tell whether a thing is a text of one to eight small letters."""
    # Python's own tests of letters let those of other scripts by, so each sign is looked up.
    return isinstance(thing, str) and 1 <= len(thing) <= 8 and all([sign in LETTERS for sign in thing])


def is_expression(thing, deep):
    """Tell whether a thing is an expression nested at most so deep."""
    # The depth is asked first: a thing nested thousands deep must not be followed to its ground.
    if deep < 1 or not isinstance(thing, tuple) or len(thing) == 0:
        return False
    word = thing[0]
    if word in PAIR_WORDS:
        return len(thing) == 3 and is_expression(thing[1], deep - 1) and is_expression(thing[2], deep - 1)
    if len(thing) != 2:
        return False
    if word == "num":
        return is_whole(thing[1], 0, GREATEST)
    if word == "var":
        return is_name(thing[1])
    return word == "not" and is_expression(thing[1], deep - 1)


def variables_in(expression):
    """Tell the list of the names of an expression's variables, as often as they stand there."""
    if expression[0] == "num":
        return []
    if expression[0] == "var":
        return [expression[1]]
    names = []
    for part in expression[1:]:
        names.extend(variables_in(part))
    return names


def number_of(expression, numbers):
    """Tell the number of an expression whose variables have the numbers of a dict."""
    word = expression[0]
    if word == "num":
        return expression[1]
    if word == "var":
        return numbers[expression[1]]
    first = number_of(expression[1], numbers)
    if word == "not":
        return one_where(first == 0)
    return number_of_pair(word, first, number_of(expression[2], numbers))


def number_of_pair(word, first, second):
    """Tell the number of two numbers behind a word."""
    if word == "+":
        return min(first + second, GREATEST)
    if word == "-":
        return max(first - second, 0)
    if word == "=":
        return one_where(first == second)
    if word == "<":
        return one_where(first < second)
    if word == "and":
        return one_where(first != 0 and second != 0)
    return one_where(first != 0 or second != 0)


def one_where(holds):
    """Tell the number of what holds or does not."""
    # A truth is no whole number, so it is not told itself.
    return 1 if holds else 0
