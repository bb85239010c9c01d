"""Relays: they stand between a left and a right that talk by two grammars, and exchange the places of words."""

from wireparley.errors import Broken
from wireparley.standing import is_parted, words_said
from wireparley.talks import grammar_copy, state_next, words_of
from wireparley.wires import read_message
from wireparley.within import is_within


def relay_table(g, h, names):
    table = []
    known = {(0, 0): True}
    pairs = [(0, 0)]
    while len(pairs) > 0:
        rows = rows_of(g, h, names, pairs.pop())
        if rows is None:
            return None
        table.extend(rows)
        for row in rows:
            behind = pair_next(g, h, row)
            if behind not in known:
                known[behind] = True
                pairs.append(behind)
    return sorted(table)


def rows_of(g, h, names, pair):
    # None where the pair is not relayed.
    if is_parted(g, h, pair):
        return None
    side = g[pair[0]][0]
    rows = [pair + places for places in places_given(words_of(g[pair[0]]), words_of(h[pair[1]]), names)]
    # Each of the sayer's words is found, and none of them twice.
    if sorted([place_of_sayer(side, row) for row in rows]) != list(range(len(words_said(g, h, pair)))):
        return None
    if not all([is_passed(g, h, side, row) for row in rows]):
        return None
    return rows


def places_given(words, others, names):
    # All places of a word and of one with the name that it is given.
    places = []
    for k in range(len(words)):
        given = names.get(words[k][0])
        places.extend([(k, l) for l in range(len(others)) if others[l][0] == given])
    return places


def place_of_sayer(side, row):
    return row[2] if side == "left" else row[3]


def is_passed(g, h, side, row):
    s = g[row[0]][1][row[2]][1]
    r = h[row[1]][1][row[3]][1]
    return is_within(s, r) if side == "left" else is_within(r, s)


def pair_next(g, h, row):
    return (state_next(g, (row[0], row[2])), state_next(h, (row[1], row[3])))


class Relay:

    def __init__(self, g, h, table):
        self.left_grammar = grammar_copy(g)
        self.right_grammar = grammar_copy(h)
        # By the pair and the place that the sayer writes.
        self.rows = {}
        for row in table:
            self.rows[(row[0], row[1], place_of_sayer(g[row[0]][0], row))] = row
        self.pair = (0, 0)
        self.wires = {"left": [], "right": []}
        self.places = {"left": 0, "right": 0}
        self.broken = None

    def states(self):
        return self.pair

    def pass_on(self, side, piece):
        # Whose bytes were broken, no piece of either side can mend it.
        if self.broken is not None:
            raise Broken(self.broken[0], self.broken[1])
        self.wires[side].extend(piece)
        passed = []
        end = self.end_of_next(side)
        while end is not None:
            passed.extend(self.pass_message(side, end))
            end = self.end_of_next(side)
        return passed

    def end_of_next(self, side):
        # The place behind this side's next message; None where it is not whole, or not this side's turn.
        state = self.sayer_state(side)
        if state[0] != side:
            return None
        try:
            read = read_message(state, self.wires[side], self.places[side])
        except Broken as e:
            self.broken = (e.at, side)
            raise Broken(e.at, side) from None
        return None if read is None else read[2]

    def sayer_state(self, side):
        return self.left_grammar[self.pair[0]] if side == "left" else self.right_grammar[self.pair[1]]

    def pass_message(self, side, end):
        at = self.places[side]
        row = self.rows[self.pair + (self.wires[side][at],)]
        self.places[side] = end
        self.pair = pair_next(self.left_grammar, self.right_grammar, row)
        # The value's bytes are the same by both shapes, as the sayer's is within the other one.
        place = row[3] if side == "left" else row[2]
        return [place] + self.wires[side][at + 1:end]
