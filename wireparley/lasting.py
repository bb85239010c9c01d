"""Watching a talk, and sides that go on again when what was under way is lost."""

from wireparley.errors import NoName, NoTalk
from wireparley.shapes import is_number_within
from wireparley.sides import Side
from wireparley.talks import is_end, state_behind


def judged(g, messages):
    try:
        state = g[state_behind(g, messages)]
    except NoTalk as e:
        return ("broke", e.at, messages[e.at][0])
    return ("over",) if is_end(state) else ("turn", state[0])


class Lasting(Side):

    def __init__(self, g, side):
        Side.__init__(self, g, side)
        self.said = []
        self.taken = 0
        self.handed = 0

    def say(self, name, value):
        row = self.speak(name, value)
        self.said.extend(row)
        return row

    def take(self, piece):
        told = self.listen(piece)
        # Only now: a piece at which it was Broken is not counted.
        self.taken = self.taken + len(piece)
        return told

    def ticket(self):
        return self.taken

    def said_behind(self, ticket):
        if not is_number_within(ticket, self.handed, len(self.said)):
            raise NoName("no such ticket can be handed now")
        self.handed = ticket
        return self.said[ticket:]
