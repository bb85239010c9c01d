"""Grammars, talks and pieces drawn by chance, from a seed, so that each run draws the same."""

import random

from tests.expected import values_of

NOTHING = ("nothing",)
BIT = ("number", 0, 1)

# Shapes of few values: each of these can be written down.
SHAPES = [
    NOTHING,
    ("number", 7, 7),
    ("number", -2, 3),
    ("number", 250, 510),
    ("text", 1),
    ("list", NOTHING, 3),
    ("list", ("number", 4, 6), 2),
    ("list", ("list", BIT, 1), 2),
    ("pair", BIT, ("list", BIT, 2)),
    ("pair", NOTHING, NOTHING),
    ("choice", (NOTHING, BIT, ("text", 1))),
]
NAMES = ["a", "b", "ask", "yes", "no", "left", "right", "end", "abcdefgh"]


def chance_of(seed):
    return random.Random(seed)


def drawn_state(chance, states):
    if chance.random() < 0.15:
        return ("end",)
    names = chance.sample(NAMES, chance.choice([1, 1, 2, 3, 9]))
    words = [(name, chance.choice(SHAPES), chance.randrange(states)) for name in names]
    return (chance.choice(["left", "right"]), words)


def drawn_grammar(chance, states):
    return [drawn_state(chance, states) for _ in range(states)]


def drawn_message(chance, state):
    name, shape, behind = chance.choice(state[1])
    return (state[0], name, chance.choice(values_of(shape))), behind


def drawn_talk(chance, g, most):
    """A talk of at most so many messages, that ends only in an end or with the most."""
    talk, state = [], 0
    while len(talk) < most and g[state] != ("end",):
        message, state = drawn_message(chance, g[state])
        talk.append(message)
    return talk


def drawn_pieces(chance, wire):
    """The wire in pieces, some of them empty."""
    cuts = sorted(chance.randrange(len(wire) + 1) for _ in range(chance.randrange(len(wire) + 4)))
    return [wire[start:end] for start, end in zip([0, *cuts], [*cuts, len(wire)])]


def drawn_feeding(chance, left, right):
    """Both wires in pieces, as a list of tuples (side, piece), each side's in its order."""
    pieces = {"left": drawn_pieces(chance, left), "right": drawn_pieces(chance, right)}
    sides = ["left"] * len(pieces["left"]) + ["right"] * len(pieces["right"])
    chance.shuffle(sides)
    return [(side, pieces[side].pop(0)) for side in sides]


def damaged(chance, wire):
    """The wire with a byte exchanged, put in, or left out, or with some bytes more."""
    at = chance.randrange(len(wire) + 1)
    byte = chance.choice([0, 1, 2, 3, 9, 37, 97, 127, 255])
    return chance.choice([
        wire[:at] + [byte] + wire[at + 1:], wire[:at] + [byte] + wire[at:], wire[:at] + wire[at + 1:],
        wire + [byte], wire[:at],
    ])
