"""The seeker: a shortest weaving that breaks a making, or the paper of all its stands (point 16)."""

from strongboxes.errors import TooMany
from strongboxes.plans import Plan
from strongboxes.stands import moved, moves_of, stand_begun


class Search:
    """The stands that were met so far, and how they were met first."""

    def __init__(self, most):
        self.most = most
        self.stands = []
        self.known = {}
        self.ways = []

    def meet(self, stand, way):
        """Keep a stand that is new; way is None or a tuple of the number of the stand ahead and the move from it."""
        if stand in self.known:
            return
        self.known[stand] = True
        self.stands.append(stand)
        self.ways.append(way)
        if len(self.stands) > self.most:
            raise TooMany("more stands are met than may be")

    def moves_to(self, way):
        """Tell the list of moves that ends with a way."""
        moves = []
        while way is not None:
            moves.append(way[1])
            way = self.ways[way[0]]
        moves.reverse()
        return moves


def seek(making, most):
    """Tell ("break", weaving) or ("paper", stands); refuse with TooMany where more than most stands are met."""
    plan = Plan(making)
    search = Search(most)
    search.meet(stand_begun(plan), None)
    place = 0
    # Stands wait in the order in which they were met, so shorter and earlier weavings come to their steps first.
    while place < len(search.stands):
        stand = search.stands[place]
        for move in moves_of(plan, stand):
            told = moved(plan, stand, move)
            if told[1] is not None:
                return ("break", [(plan.names[number], pick) for number, pick in search.moves_to((place, move))])
            search.meet(told[0], (place, move))
        place += 1
    return ("paper", search.stands)
