"""Sides: the programs of a talk, each alone, and both together with what is under way between them."""

from wireparley.errors import NoRow, NoTalk
from wireparley.pieces import Hearer
from wireparley.shapes import is_number_within
from wireparley.talks import is_end, place_named, place_said, state_next
from wireparley.wires import message_bytes

SIDES = ("left", "right")


def other_side(side):
    return "right" if side == "left" else "left"


class Side(Hearer):

    def __init__(self, g, side):
        # It hears the other side's wire alone: so its reading stops wherever it may say something itself.
        Hearer.__init__(self, g, (other_side(side),))
        self.side = side

    # What a side does by speak and listen is apart from say and take, so that
    # a side that keeps count of what it says and takes does the same.

    def say(self, name, value):
        return self.speak(name, value)

    def take(self, piece):
        return self.listen(piece)

    def speak(self, name, value):
        state = self.grammar[self.standing]
        place = place_said(state, (self.side, name, value))
        if place is None:
            raise NoTalk(0)
        self.standing = state_next(self.grammar, (self.standing, place))
        return message_bytes(state, place, value)

    def listen(self, piece):
        return self.hear(other_side(self.side), piece)

    def waiting(self):
        return self.unread_of(other_side(self.side))

    def may_say(self):
        return self.grammar[self.standing][0] == self.side

    def shape_to_say(self, name):
        # The shape of a word that it may say now.
        state = self.grammar[self.standing]
        place = place_named(state, name) if self.may_say() else None
        if place is None:
            raise NoTalk(0)
        return state[1][place][1]

    def has_ended(self):
        return is_end(self.grammar[self.standing])


class Parley:

    def __init__(self, g):
        self.left = Side(g, "left")
        self.right = Side(g, "right")
        # By the side that said them: the bytes that the other one has not taken yet.
        self.under_way = {"left": [], "right": []}

    def of_side(self, side):
        return self.left if side == "left" else self.right

    def do(self, act):
        if is_act(act, "say", 4):
            return self.do_saying(act[1], act[2], act[3])
        if is_act(act, "take", 3):
            return self.do_taking(act[1], act[2])
        raise NoRow("this is no act")

    def do_saying(self, side, name, value):
        said = self.of_side(side).say(name, value)
        self.under_way[side].extend(said)
        return said

    def do_taking(self, side, n):
        wire = self.under_way[other_side(side)]
        if not is_number_within(n, 1, len(wire)):
            raise NoRow("so many bytes do not lie there")
        told = self.of_side(side).take(wire[:n])
        self.under_way[other_side(side)] = wire[n:]
        return told

    def may(self):
        says = [("say", side) for side in SIDES if self.of_side(side).may_say()]
        takes = [("take", side) for side in SIDES if len(self.under_way[other_side(side)]) > 0]
        return says + takes

    def is_over(self):
        ended = self.left.has_ended() and self.right.has_ended()
        waits = self.left.waiting() + self.right.waiting()
        return ended and waits == 0 and self.lying() == (0, 0)

    def states(self):
        return (self.left.state(), self.right.state())

    def lying(self):
        return (len(self.under_way["left"]), len(self.under_way["right"]))


def is_act(thing, kind, parts):
    # The thing is of any kind: its texts are compared only when they are texts.
    if not isinstance(thing, tuple) or len(thing) != parts:
        return False
    return is_one_of(thing[0], (kind,)) and is_one_of(thing[1], SIDES)


def is_one_of(thing, texts):
    return isinstance(thing, str) and thing in texts
