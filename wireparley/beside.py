"""Talks side by side: by several grammars at once, over the same two wires."""

from wireparley.errors import Broken, NoTalk
from wireparley.shapes import is_number_within
from wireparley.talks import is_end, place_said, state_next
from wireparley.wires import message_bytes, read_message


def wires_beside(grammars, said):
    wires = {"left": [], "right": []}
    states = [0 for g in grammars]
    for number in range(len(said)):
        place = place_beside(grammars, states, said[number])
        if place is None:
            raise NoTalk(number)
        k = said[number][0]
        state = grammars[k][states[k]]
        wires[state[0]].extend([k] + message_bytes(state, place, said[number][3]))
        states[k] = state_next(grammars[k], (states[k], place))
    return (wires["left"], wires["right"])


def place_beside(grammars, states, thing):
    # The thing is of any kind; None where it is not said in these states.
    if not isinstance(thing, tuple) or len(thing) != 4:
        return None
    k = thing[0]
    if not is_number_within(k, 0, len(grammars) - 1):
        return None
    return place_said(grammars[k][states[k]], thing[1:])


def talks_beside(grammars, left, right):
    listener = Listener(grammars, left, right)
    # What waits on the one wire may be due only behind what the other one holds.
    while listener.read_wire("left") or listener.read_wire("right"):
        pass
    # Only now is it told what is broken: it must not keep the other wire from being read to its end.
    listener.next_of("left")
    listener.next_of("right")
    return (listener.heard, (listener.places["left"], listener.places["right"]))


class Listener:

    def __init__(self, grammars, left, right):
        self.grammars = grammars
        self.wires = {"left": left, "right": right}
        self.places = {"left": 0, "right": 0}
        self.standings = [0 for g in grammars]
        self.heard = [[] for g in grammars]

    def read_wire(self, side):
        # Whether a message could be read.
        start = self.places[side]
        read = self.next_if_whole(side)
        while read is not None:
            k = self.wires[side][self.places[side]]
            self.heard[k].append(read[0])
            self.standings[k] = read[1]
            self.places[side] = read[2]
            read = self.next_if_whole(side)
        return self.places[side] > start

    def next_if_whole(self, side):
        try:
            return self.next_of(side)
        except Broken:
            return None

    def next_of(self, side):
        # The message, the state behind it and the place behind it; None where nothing is there, or it waits.
        wire = self.wires[side]
        at = self.places[side]
        if at >= len(wire):
            return None
        if wire[at] >= len(self.grammars):
            raise Broken(at, side)
        state = self.grammars[wire[at]][self.standings[wire[at]]]
        if is_end(state):
            raise Broken(at, side)
        if state[0] != side:
            return None
        return read_message(state, wire, at + 1)
