"""The wires of talks: the bytes of each side's messages, written and read back."""

from wireparley.errors import Broken, Short
from wireparley.talks import steps_of
from wireparley.values import fitting_bytes, read_value


def wires_of(g, talk):
    wires = {"left": [], "right": []}
    steps = steps_of(g, talk)
    for k in range(len(steps)):
        state = g[steps[k][0]]
        wires[state[0]].extend(message_bytes(state, steps[k][1], talk[k][2]))
    return (wires["left"], wires["right"])


def message_bytes(state, place, value):
    return [place] + fitting_bytes(state[1][place][1], value)


def talk_by(g, left, right):
    read = read_on(g, 0, {"left": left, "right": right}, {"left": 0, "right": 0})
    return (read[0], read[1], (read[2]["left"], read[2]["right"]))


def read_on(g, state, wires, places):
    # Goes on while the state is of a side whose wire is here, and its next
    # message is whole: so it stops in an end too, which is of no side.
    talk = []
    standing = state
    behind = dict(places)
    while g[standing][0] in wires:
        side = g[standing][0]
        read = read_message(g[standing], wires[side], behind[side])
        if read is None:
            break
        talk.append(read[0])
        standing = read[1]
        behind[side] = read[2]
    return (talk, standing, behind)


def read_message(state, wire, at):
    # The message, the state behind it and the place behind it; None where more bytes are due.
    if at >= len(wire):
        return None
    if wire[at] >= len(state[1]):
        raise Broken(at, state[0])
    word = state[1][wire[at]]
    try:
        read = read_value(word[1], wire, at + 1)
    except Short:
        return None
    except Broken as e:
        raise Broken(e.at, state[0]) from None
    return ((state[0], word[0], read[0]), word[2], read[1])
