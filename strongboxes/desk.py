"""The desk: a making and a weaving of it, asked and changed by lines of text (points 22 to 24)."""

from strongboxes.errors import NoLine, NoStep
from strongboxes.exprs import is_name
from strongboxes.judge import judged
from strongboxes.papers import check_paper
from strongboxes.plans import Plan
from strongboxes.seek import seek
from strongboxes.stands import move_of, moved, moves_of, stand_begun
from strongboxes.texts import read_making, read_number, shown_making
from strongboxes.turned import needless, turned

MOST_FIGURES = 6
MOST_STANDS = 100000

# What stands behind the word of a line; a limit is how many stands seek may meet.
LINE_PARTS = {
    "making": (),
    "weaving": (),
    "steps": (),
    "events": (),
    "do": ("hand", "number"),
    "back": (),
    "kept": (),
    "seek": ("limit",),
    "check": ("limit",),
    "turned": (),
    "needless": ("limit",),
    "turn": ("number",),
}


class Desk:
    """A making and how far a weaving of it is done."""

    def __init__(self, text):
        self.lay(read_making(text))

    def lay(self, making):
        """Take up a making, no step done."""
        self.plan = Plan(making)
        self.stands = [stand_begun(self.plan)]
        self.weaving = []
        # Of each step the list of its events.
        self.events = []

    def say(self, line):
        """Do a line and tell a text; refuse with NoLine what is none, with NoStep and TooMany as point 24 tells."""
        asked = read_line(line)
        word = asked[0]
        if word == "do":
            return done_step(self, asked[1:])
        if word == "back":
            return taken_back(self)
        if word == "turn":
            return gone_over(self, asked[1])
        if word in ("seek", "check", "needless"):
            return sought(self.plan.making, word, asked[1])
        return answer(self, word)


def read_line(line):
    """Tell the tuple of a line's word and the things behind it; refuse with NoLine what is no line by its words."""
    if not isinstance(line, str):
        raise NoLine("a line is a text")
    words = line.split(" ")
    if words[0] not in LINE_PARTS or len(words) != 1 + len(LINE_PARTS[words[0]]):
        raise NoLine("there is no such line")
    things = [read_thing(part, word) for part, word in zip(LINE_PARTS[words[0]], words[1:])]
    return (words[0],) + tuple(things)


def read_thing(part, word):
    """Tell what a word says of a part of a line; refuse with NoLine one that says nothing of it."""
    if part == "hand":
        if not is_name(word):
            raise NoLine("a hand is told by a name")
        return word
    number = read_number(word, MOST_FIGURES)
    if number is None:
        raise NoLine("a number is of one to six figures")
    if part == "limit" and not 1 <= number <= MOST_STANDS:
        raise NoLine("so many stands can't be asked for")
    return number


def answer(desk, word):
    """Tell what a line of one word asks for."""
    making = desk.plan.making
    if word == "making":
        return shown_making(making)
    if word == "weaving":
        return listed(desk.weaving)
    if word == "steps":
        return listed(steps_now(desk))
    if word == "events":
        return listed(events_of(desk))
    if word == "kept":
        return "yes" if judged(making, events_of(desk)) else "no"
    return listed([what for what, other in turned(making)])


def listed(things):
    """Tell the text of a list of tuples, each by its words."""
    return "; ".join([told_words(thing) for thing in things]) if things else "none"


def told_words(thing):
    """Tell the text of a tuple's words."""
    return " ".join([str(part) for part in thing])


def steps_now(desk):
    """Tell the list of steps that can be taken now."""
    stand = desk.stands[-1]
    if stand is None:
        return []
    return [(desk.plan.names[number], pick) for number, pick in moves_of(desk.plan, stand)]


def events_of(desk):
    """Tell the list of all events so far."""
    found = []
    for events in desk.events:
        found.extend(events)
    return found


def done_step(desk, step):
    """Take a step."""
    stand = desk.stands[-1]
    move = None if stand is None else move_of(desk.plan, stand, step)
    if move is None:
        raise NoStep(len(desk.weaving))
    told = moved(desk.plan, stand, move)
    desk.weaving.append(step)
    desk.stands.append(told[0])
    desk.events.append(told[2])
    if told[1] is not None:
        return "broke " + told_words(told[1])
    return listed(told[2])


def taken_back(desk):
    """Take the last step back."""
    if len(desk.weaving) == 0:
        raise NoLine("no step is done")
    desk.weaving.pop()
    desk.stands.pop()
    desk.events.pop()
    return "ok"


def gone_over(desk, number):
    """Go over to the making with a number among those with one thing turned."""
    others = turned(desk.plan.making)
    if number >= len(others):
        raise NoLine("there is no such making")
    desk.lay(others[number][1])
    return "ok"


def sought(making, word, most):
    """Tell what a line asks of the seeker."""
    if word == "needless":
        return listed(needless(making, most))
    found = seek(making, most)
    if word == "check":
        if found[0] == "break":
            return "none"
        check_paper(making, found[1])
        return "ok"
    if found[0] == "break":
        return "break " + listed(found[1])
    return "paper " + str(len(found[1]))
