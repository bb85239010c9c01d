"""Grammars, talks and pieces drawn by chance, from a seed, so that each run draws the same."""

import random

from tests.expected import expected_within, values_of

NOTHING = ("nothing",)
BIT = ("number", 0, 1)

# Shapes of few values: each of these can be written down.
SHAPES = [
    NOTHING,
    ("number", 7, 7),
    ("number", -2, 3),
    ("number", 250, 510),
    ("text", 1),
    ("list", NOTHING, 3),
    ("list", ("number", 4, 6), 2),
    ("list", ("list", BIT, 1), 2),
    ("pair", BIT, ("list", BIT, 2)),
    ("pair", NOTHING, NOTHING),
    ("choice", (NOTHING, BIT, ("text", 1))),
]
NAMES = ["a", "b", "ask", "yes", "no", "left", "right", "end", "abcdefgh"]


def chance_of(seed):
    return random.Random(seed)


def drawn_state(chance, states):
    if chance.random() < 0.15:
        return ("end",)
    names = chance.sample(NAMES, chance.choice([1, 1, 2, 3, 9]))
    words = [(name, chance.choice(SHAPES), chance.randrange(states)) for name in names]
    return (chance.choice(["left", "right"]), words)


def drawn_grammar(chance, states):
    return [drawn_state(chance, states) for _ in range(states)]


# Of these the ones in a row are near: some are within others, some part from them.
NEAR_SHAPES = [
    [NOTHING, ("list", NOTHING, 0), ("list", BIT, 0), ("list", BIT, 1), ("list", ("number", 0, 2), 2)],
    [BIT, ("number", 0, 2), ("number", 0, 0), ("number", 1, 2), ("number", 0, 256)],
    [("text", 0), ("text", 1)],
    [("pair", BIT, ("number", 0, 0)), ("pair", BIT, BIT), ("pair", ("number", 0, 0), BIT)],
    [("choice", (BIT,)), ("choice", (BIT, NOTHING)), ("choice", (("number", 0, 2), NOTHING, BIT))],
]


def near_grammar(chance, states):
    """A grammar of shapes that have others near to them, with few words."""
    g = []
    for _ in range(states):
        words = [
            (name, chance.choice(chance.choice(NEAR_SHAPES)), chance.randrange(states))
            for name in chance.sample("abcd", chance.choice([1, 1, 2, 3]))
        ]
        g.append(("end",) if chance.random() < 0.2 else (chance.choice(["left", "right"]), words))
    return g


def kin_of(chance, g, changes):
    """A grammar like this one but for so many changes."""
    kin = [state if state == ("end",) else (state[0], list(state[1])) for state in g]
    for _ in range(changes):
        number = chance.randrange(len(kin))
        kin[number] = changed_state(chance, kin[number], len(kin))
    return kin


def renumbered(chance, g):
    """The same grammar, with its states but the first one in another order."""
    order = [0, *chance.sample(range(1, len(g)), len(g) - 1)]
    states = [g[number] for number in order]
    return [state if state == ("end",) else
            (state[0], [(name, shape, order.index(behind)) for name, shape, behind in state[1]]) for state in states]


def changed_state(chance, state, states):
    if state == ("end",) or chance.random() < 0.05:
        return near_grammar(chance, states)[0]
    side, words = state[0], list(state[1])
    place = chance.randrange(len(words))
    name, shape, behind = words[place]
    change = chance.choice(["more", "more", "less", "turn", "name", "shape", "shape", "behind", "side", "end"])
    free = [letter for letter in "abcdefgh" if letter not in [word[0] for word in words]]
    if change == "more":
        words.append((chance.choice(free), shape, chance.randrange(states)))
    elif change == "less" and len(words) > 1:
        words.pop()
    elif change == "turn":
        words.insert(chance.randrange(len(words)), words.pop(place))
    elif change == "name":
        words[place] = (chance.choice(free), shape, behind)
    elif change == "shape":
        words[place] = (name, chance.choice([row for row in NEAR_SHAPES if shape in row][0]), behind)
    elif change == "behind":
        words[place] = (name, shape, chance.randrange(states))
    elif change == "side":
        side = {"left": "right", "right": "left"}[side]
    elif change == "end":
        return ("end",)
    return (side, words)


def drawn_message(chance, state):
    name, shape, behind = chance.choice(state[1])
    return (state[0], name, chance.choice(values_of(shape))), behind


def drawn_talk(chance, g, most):
    """A talk of at most so many messages, that ends only in an end or with the most."""
    talk, state = [], 0
    while len(talk) < most and g[state] != ("end",):
        message, state = drawn_message(chance, g[state])
        talk.append(message)
    return talk


def drawn_pieces(chance, wire):
    """The wire in pieces, some of them empty."""
    cuts = sorted(chance.randrange(len(wire) + 1) for _ in range(chance.randrange(len(wire) + 4)))
    return [wire[start:end] for start, end in zip([0, *cuts], [*cuts, len(wire)])]


def drawn_feeding(chance, left, right):
    """Both wires in pieces, as a list of tuples (side, piece), each side's in its order."""
    pieces = {"left": drawn_pieces(chance, left), "right": drawn_pieces(chance, right)}
    sides = ["left"] * len(pieces["left"]) + ["right"] * len(pieces["right"])
    chance.shuffle(sides)
    return [(side, pieces[side].pop(0)) for side in sides]


def damaged(chance, wire):
    """The wire with a byte exchanged, put in, or left out, or with some bytes more."""
    at = chance.randrange(len(wire) + 1)
    byte = chance.choice([0, 1, 2, 3, 9, 37, 97, 127, 255])
    return chance.choice([
        wire[:at] + [byte] + wire[at + 1:], wire[:at] + [byte] + wire[at:], wire[:at] + wire[at + 1:],
        wire + [byte], wire[:at],
    ])


def near_shapes(s, wider):
    """The shapes near to this one that it is within, or, where no wider ones are asked for, that are within it."""
    near = [row for row in NEAR_SHAPES if s in row][0]
    return [r for r in near if (expected_within(s, r) if wider else expected_within(r, s))]


def relayed_kin(chance, g):
    """A grammar h and a dict of names such that a relay may stand between a left by g and a right by h."""
    names = dict(zip("abcd", chance.sample(["a", "b", "c", "d", "e", "abcdefgh"], 4)))
    h = []
    for state in renumbered(chance, g):
        if state == ("end",):
            h.append(state)
            continue
        side, words = state
        shapes = [chance.choice(near_shapes(shape, side == "left")) for _, shape, _ in words]
        words = [(names[word[0]], shape, word[2]) for word, shape in zip(words, shapes)]
        chance.shuffle(words)
        if side == "left":
            # Words that the left never says may stand anywhere among those that it hears.
            more = ("more", chance.choice(chance.choice(NEAR_SHAPES)), chance.randrange(len(g)))
            words.insert(chance.randrange(len(words) + 1), more)
        elif len(words) > 1 and chance.random() < 0.5:
            words.pop()
        h.append((side, words))
    return h, names
