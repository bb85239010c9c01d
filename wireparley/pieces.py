"""Readers: they are fed the bytes of wires in pieces, and tell the messages that become whole."""

from wireparley.talks import grammar_copy
from wireparley.wires import read_on


# What a Reader and a Side have alike: to stand in a state of a grammar, and to
# read on from the wires of some sides, as their bytes come.

class Hearer:

    def __init__(self, g, sides):
        self.grammar = grammar_copy(g)
        self.standing = 0
        self.wires = {}
        self.places = {}
        for side in sides:
            self.wires[side] = []
            self.places[side] = 0

    def state(self):
        return self.standing

    def hear(self, side, piece):
        self.wires[side].extend(piece)
        # Where this is refused, the bytes stay and the state and the places do
        # not move: so each later piece meets the same broken bytes again.
        read = read_on(self.grammar, self.standing, self.wires, self.places)
        self.standing = read[1]
        self.places = read[2]
        return read[0]

    def unread_of(self, side):
        return len(self.wires[side]) - self.places[side]


class Reader(Hearer):

    def __init__(self, g):
        Hearer.__init__(self, g, ("left", "right"))

    def feed(self, side, piece):
        return self.hear(side, piece)

    def unread(self):
        return (self.unread_of("left"), self.unread_of("right"))
