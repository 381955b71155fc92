"""A making laid out for its steps, and how a hand goes on without one (points 11 to 13)."""

from strongboxes.exprs import number_of
from strongboxes.judge import claim_behind
from strongboxes.makings import variables_of

UNCOUNTED = ("let", "jump", "unless")


class Plan:
    """A making with what its steps ask for again and again."""

    def __init__(self, making):
        self.making = making
        self.names = [hand[0] for hand in making[4]]
        self.variables = [variables_of_rows(hand[2]) for hand in making[4]]
        self.places = {}
        for place, box in enumerate(making[3]):
            self.places[box[0]] = place
        # The seeker comes to the same ways and claims from thousands of stands, so they are found once.
        self.ways = {}
        self.claims = {}

    def row_at(self, number, at):
        """Tell a row of a hand."""
        return self.making[4][number][2][at]

    def place_of(self, row):
        """Tell the number of the box that a row puts or gets."""
        return self.places[row[1] if row[0] == "put" else row[2]]

    def named_numbers(self, number, worth, numbers):
        """Tell a dict of the numbers of a hand's variables; the worth is the one that a writer is to write."""
        named = dict(zip(self.variables[number], numbers))
        if number == 0:
            named["v"] = worth
        return named

    def way_on(self, number, at, worth, numbers):
        """Tell how a hand goes on from a row, as way_found does."""
        asked = (number, at, worth, numbers)
        if asked not in self.ways:
            self.ways[asked] = way_found(self, number, at, worth, numbers)
        return self.ways[asked]

    def claim_on(self, claim, word, number, worth):
        """Tell the claim behind the begin or end of a hand's deed, or None where it breaks."""
        asked = (claim, word, number, worth)
        if asked not in self.claims:
            self.claims[asked] = claim_behind(self.making, claim, (word, number, worth))
        return self.claims[asked]


def variables_of_rows(rows):
    """Tell the sorted list of the names of all variables of rows but v."""
    names = []
    for row in rows:
        names.extend(variables_of(row))
    return [name for name in sorted(set(names)) if name != "v"]


def way_found(plan, number, at, worth, numbers):
    """Tell how a hand goes on from a row: a tuple (word, row, numbers, told).

    The word is "stands" where it comes to a put or get, the row; "ends" where the deed ends, told None of the
    writer; else how it breaks.
    """
    rows = plan.making[4][number][2]
    named = plan.named_numbers(number, worth, numbers)
    at = followed(rows, at, named)
    if at is None:
        return ("stuck", None, None, None)
    later = tuple([named[name] for name in plan.variables[number]])
    if at == len(rows):
        return ("ends" if number == 0 else "silent", None, later, None)
    row = rows[at]
    if row[0] in ("put", "get"):
        return ("stands", at, later, None)
    if row[0] == "done":
        return ("ends", None, later, None)
    told = number_of(row[1], named)
    return ("ends" if told < plan.making[1] else "great", None, later, told)


def followed(rows, at, named):
    """Lead named numbers on from a row to the first that is no let, jump or unless.

    Tell that row's number, or None where there is none since it goes on for ever.
    """
    # What goes on for ever comes again to each place of its round. A program that counts passes too many places to
    # keep them all, so one is kept at a time, and each for twice as long as the one ahead of it.
    kept_at = None
    kept_named = None
    span = 1
    left = 1
    while at < len(rows) and rows[at][0] in UNCOUNTED:
        if at == kept_at and named == kept_named:
            return None
        left -= 1
        if left == 0:
            kept_at = at
            kept_named = dict(named)
            span = 2 * span
            left = span
        at = row_behind(rows[at], at, named)
    return at


def row_behind(row, at, named):
    """Do a let, jump or unless at a row's number, and tell the number of the row that comes behind it."""
    if row[0] == "jump":
        return row[1]
    if row[0] == "unless" and number_of(row[1], named) == 0:
        return row[2]
    if row[0] == "let":
        named[row[1]] = number_of(row[2], named)
    return at + 1
