"""What the document asks for, worked out in other ways than the program's."""

import itertools

SIGNS = "".join(chr(number) for number in range(32, 127) if number != 37)


def values_of(s):
    """All values of a shape of few values, by the words of point [5]."""
    kind = s[0]
    if kind == "nothing":
        return [None]
    if kind == "number":
        return list(range(s[1], s[2] + 1))
    if kind == "text":
        texts = [itertools.product(SIGNS, repeat=length) for length in range(s[1] + 1)]
        return ["".join(signs) for signs in itertools.chain(*texts)]
    if kind == "list":
        rows = [itertools.product(values_of(s[1]), repeat=length) for length in range(s[2] + 1)]
        return [list(row) for row in itertools.chain(*rows)]
    if kind == "pair":
        return list(itertools.product(values_of(s[1]), values_of(s[2])))
    return [("of", k, value) for k, part in enumerate(s[1]) for value in values_of(part)]


def expected_bytes(s, value):
    """The words of point [6], written another way than the program's."""
    kind = s[0]
    if kind == "nothing":
        return []
    if kind == "number":
        width = 0
        while 256 ** width <= s[2] - s[1]:
            width += 1
        return list((value - s[1]).to_bytes(width, "big"))
    if kind == "text":
        return [len(value), *value.encode("ascii")]
    if kind == "list":
        return [len(value), *itertools.chain(*[expected_bytes(s[1], thing) for thing in value])]
    if kind == "pair":
        return expected_bytes(s[1], value[0]) + expected_bytes(s[2], value[1])
    return [value[1], *expected_bytes(s[1][value[1]], value[2])]


def lists_in(value):
    if isinstance(value, list):
        return [value] + [part for thing in value for part in lists_in(thing)]
    if isinstance(value, tuple):
        return [part for thing in value for part in lists_in(thing)]
    return []


def expected_message(g, state, place, value):
    """The bytes of a message by the words of point [11]."""
    return [place, *expected_bytes(g[state][1][place][1], value)]


def expected_wires(g, talk):
    state, wires = 0, {"left": [], "right": []}
    for side, name, value in talk:
        names = [word[0] for word in g[state][1]]
        wires[side] += expected_message(g, state, names.index(name), value)
        state = g[state][1][names.index(name)][2]
    return wires["left"], wires["right"]


def expected_ways(g, n, state=0):
    """All ways of n messages in the order of point [10]."""
    if g[state] == ("end",):
        return [[]] if n == 0 else []
    if n == 0:
        return []
    return [[word[0], *way] for word in g[state][1] for way in expected_ways(g, n - 1, word[2])]


class KnownWires:
    """All rows of bytes of the messages of a grammar of few values, and what is read by the words of point [12]."""

    def __init__(self, g):
        self.g = g
        self.whole = [self.messages_of(number) for number in range(len(g))]
        self.begun = [{row[:cut] for row in whole for cut in range(len(row) + 1)} for whole in self.whole]

    def messages_of(self, number):
        if self.g[number] == ("end",):
            return {}
        side, words = self.g[number]
        return {
            tuple(expected_message(self.g, number, place, value)): ((side, name, value), behind)
            for place, (name, shape, behind) in enumerate(words) for value in values_of(shape)
        }

    def read(self, left, right):
        """Either ("talk", talk, state, places) or ("broken", at, side)."""
        wires, places = {"left": left, "right": right}, {"left": 0, "right": 0}
        talk, state = [], 0
        while self.g[state] != ("end",):
            side = self.g[state][0]
            found = self.first_message(state, wires[side], places[side])
            if found is None:
                break
            if found[0] == "broken":
                return ("broken", found[1], side)
            message, state = self.whole[state][tuple(wires[side][places[side]:found[1]])]
            talk.append(message)
            places[side] = found[1]
        return ("talk", talk, state, (places["left"], places["right"]))

    def first_message(self, state, wire, at):
        for end in range(at, len(wire) + 1):
            row = tuple(wire[at:end])
            if row in self.whole[state]:
                return ("whole", end)
            if row not in self.begun[state]:
                return ("broken", end - 1)
        return None


def expected_within(s, r):
    """Whether each value of a shape of few values fits another, with the same bytes."""
    others = {repr(value) for value in values_of(r)}
    return all(
        repr(value) in others and expected_bytes(s, value) == expected_bytes(r, value) for value in values_of(s)
    )
