"""Points [25] and [26], and point [3] as far as it speaks of relays."""

import itertools
import unittest

from tests.drawn import (
    chance_of, changed_state, damaged, drawn_feeding, drawn_message, kin_of, near_grammar, relayed_kin,
)
from tests.expected import KnownWires, expected_message, expected_within, lists_in
from wireparley.errors import Broken
from wireparley.relays import Relay, relay_table
from wireparley.sides import Side
from wireparley.wires import talk_by, wires_of

NOTHING = ("nothing",)
END = ("end",)
BIT = ("number", 0, 1)
SIDES = ["left", "right"]
OTHER = {"left": "right", "right": "left"}


def asking():
    return [
        ("left", [("ask", ("text", 9), 1), ("go", NOTHING, 2)]),
        ("right", [("yes", ("number", 0, 99), 0), ("no", NOTHING, 0), ("more", ("list", BIT, 3), 1)]),
        END,
    ]


def fragen():
    """The same with other names, at other places, in other states, wider where it hears, narrower where it says."""
    return [
        ("left", [("weg", NOTHING, 1), ("frag", ("text", 12), 2), ("nie", BIT, 0)]),
        END,
        ("right", [("mehr", ("list", BIT, 2), 2), ("ja", ("number", 0, 9), 0)]),
    ]


def wording():
    return {"ask": "frag", "go": "weg", "yes": "ja", "no": "nein", "more": "mehr"}


TABLE = [(0, 0, 0, 1), (0, 0, 1, 0), (1, 2, 0, 1), (1, 2, 2, 0)]


def relay():
    return Relay(asking(), fragen(), relay_table(asking(), fragen(), wording()))


def expected_rows(g, h, names, p, q):
    """The rows of a pair by the words of point [25], or None."""
    if g[p][0] != h[q][0]:
        return None
    if g[p] == END:
        return []
    rows = []
    if g[p][0] == "left":
        for k, (name, shape, _) in enumerate(g[p][1]):
            found = [l for l, word in enumerate(h[q][1]) if name in names and names[name] == word[0]]
            if len(found) != 1 or not expected_within(shape, h[q][1][found[0]][1]):
                return None
            rows.append((p, q, k, found[0]))
    else:
        for l, (name, shape, _) in enumerate(h[q][1]):
            found = [k for k, word in enumerate(g[p][1]) if word[0] in names and names[word[0]] == name]
            if len(found) != 1 or not expected_within(shape, g[p][1][found[0]][1]):
                return None
            rows.append((p, q, found[0], l))
    return rows


def expected_table(g, h, names):
    table, pairs, k = [], [(0, 0)], 0
    while k < len(pairs):
        rows = expected_rows(g, h, names, *pairs[k])
        if rows is None:
            return None
        table += rows
        for p, q, place, other in rows:
            pair = (g[p][1][place][2], h[q][1][other][2])
            pairs += [pair] if pair not in pairs else []
        k += 1
    return sorted(table)


class RelayModel:
    """A relay by the words of point [26]: it reads by the one grammar's names, and says by the other's."""

    def __init__(self, g, h, names):
        self.grammars = {"left": g, "right": h}
        self.known = {"left": KnownWires(g), "right": KnownWires(h)}
        self.names = names
        self.states = {"left": 0, "right": 0}
        self.wires = {"left": [], "right": []}
        self.places = {"left": 0, "right": 0}
        self.broken = None

    def pass_on(self, side, piece):
        """The bytes, or ("broken", at, side)."""
        self.wires[side] = self.wires[side] + piece
        passed = []
        while self.broken is None and self.grammars[side][self.states[side]][0] == side:
            found = self.known[side].first_message(self.states[side], self.wires[side], self.places[side])
            if found is None:
                break
            if found[0] == "broken":
                self.broken = ("broken", found[1], side)
                break
            passed += self.passed(side, self.wires[side][self.places[side]:found[1]])
            self.places[side] = found[1]
        return self.broken or passed

    def passed(self, side, row):
        (_, name, value), behind = self.known[side].whole[self.states[side]][tuple(row)]
        if side == "left":
            name = self.names[name]
        else:
            mine = [word[0] for word in self.grammars["left"][self.states["left"]][1]]
            name = [word for word in mine if self.names.get(word) == name][0]
        other = OTHER[side]
        words = self.grammars[other][self.states[other]][1]
        place = [word[0] for word in words].index(name)
        passed = expected_message(self.grammars[other], self.states[other], place, value)
        self.states = {side: behind, other: words[place][2]}
        return passed


class RelayTableTest(unittest.TestCase):

    def table(self, g, h, names, expected):
        self.assertEqual(relay_table(g, h, names), expected)
        self.assertEqual(expected_table(g, h, names), expected)

    def one(self, side, words, others, names):
        """The table of two states that lead to an end, without their numbers."""
        g = [(side, [(name, shape, 1) for name, shape in words]), END]
        h = [(side, [(name, shape, 1) for name, shape in others]), END]
        table = relay_table(g, h, names)
        self.assertEqual(table, expected_table(g, h, names))
        return table if table is None else [row[2:] for row in table]

    def test_a_table(self):
        told = relay_table(asking(), fragen(), wording())
        self.assertEqual(told, TABLE)
        self.assertIs(type(told), list)
        for row in told:
            self.assertEqual([type(row), *[type(number) for number in row]], [tuple, int, int, int, int])

    def test_ends(self):
        self.table([END], [END], {}, [])
        self.table([END], [END], {"a": "b"}, [])
        self.table([END, asking()[0], END], [END], {}, [])
        for side in SIDES:
            state = (side, [("a", NOTHING, 0)])
            self.table([END], [state], {"a": "a"}, None)
            self.table([state], [END], {"a": "a"}, None)

    def test_the_order(self):
        """By the first number, then the second, the third: whoever says, and however the states are come to."""
        g = [("left", [("a", NOTHING, 2), ("b", NOTHING, 1)]), ("right", [("a", NOTHING, 0), ("b", NOTHING, 2)]),
             ("right", [("a", NOTHING, 2), ("b", NOTHING, 2)])]
        h = [("left", [("b", NOTHING, 2), ("a", NOTHING, 1)]), ("right", [("b", NOTHING, 1), ("a", NOTHING, 1)]),
             ("right", [("b", NOTHING, 1), ("a", NOTHING, 0)])]
        self.table(g, h, {"a": "a", "b": "b"}, [
            (0, 0, 0, 1), (0, 0, 1, 0), (1, 2, 0, 1), (1, 2, 1, 0), (2, 1, 0, 1), (2, 1, 1, 0),
        ])

    def test_a_state_beside_several(self):
        g = [("left", [("a", NOTHING, 0), ("b", BIT, 1)]), END]
        h = [("left", [("b", BIT, 2), ("a", NOTHING, 1)]), ("left", [("a", NOTHING, 0), ("b", BIT, 2)]), END]
        self.table(g, h, {"a": "a", "b": "b"}, [(0, 0, 0, 1), (0, 0, 1, 0), (0, 1, 0, 0), (0, 1, 1, 1)])

    def test_names_are_exchanged(self):
        words = [("a", NOTHING), ("b", NOTHING)]
        for side in SIDES:
            self.assertEqual(self.one(side, words, words, {"a": "a", "b": "b"}), [(0, 0), (1, 1)])
            self.assertEqual(self.one(side, words, words, {"a": "b", "b": "a"}), [(0, 1), (1, 0)])
            self.assertEqual(self.one(side, words, words[::-1], {"a": "b", "b": "a"}), [(0, 0), (1, 1)])

    def test_a_name_that_the_dict_lacks(self):
        words = [("a", NOTHING), ("b", NOTHING)]
        for side in SIDES:
            for names in [{}, {"a": "a"}, {"b": "b"}, {"c": "a", "d": "b"}]:
                self.assertIsNone(self.one(side, words, words, names))
        # What the other one only hears need have no name.
        self.assertEqual(self.one("left", [("a", NOTHING)], words, {"a": "b"}), [(0, 1)])
        self.assertEqual(self.one("right", words, [("a", NOTHING)], {"b": "a"}), [(1, 0)])
        self.assertIsNone(self.one("left", words, [("a", NOTHING)], {"a": "a"}))
        self.assertIsNone(self.one("right", [("a", NOTHING)], words, {"a": "a"}))

    def test_names_that_are_not_there(self):
        for side in SIDES:
            self.assertIsNone(self.one(side, [("a", NOTHING)], [("a", NOTHING)], {"a": "c"}))
            self.assertIsNone(self.one(side, [("a", NOTHING)], [("a", NOTHING)], {"a": ""}))
            self.assertEqual(
                self.one(side, [("a", NOTHING)], [("a", NOTHING)], {"a": "a", "x": "a", "y": "z"}), [(0, 0)])

    def test_two_names_that_are_given_one(self):
        words, names = [("a", NOTHING), ("b", NOTHING)], {"a": "c", "b": "c"}
        # Each of the left's words has just one: but what the right says has two.
        self.assertEqual(self.one("left", words, [("c", NOTHING)], names), [(0, 0), (1, 0)])
        self.assertEqual(self.one("left", words, [("d", NOTHING), ("c", NOTHING)], names), [(0, 1), (1, 1)])
        self.assertIsNone(self.one("right", words, [("c", NOTHING)], names))
        self.assertEqual(self.one("right", words[:1], [("c", NOTHING)], names), [(0, 0)])
        self.assertEqual(self.one("right", words[1:], [("c", NOTHING)], names), [(0, 0)])

    def test_just_one_whatever_the_shapes(self):
        """Of two with the given name none is told apart by its shape."""
        names = {"a": "c", "b": "c"}
        self.assertIsNone(self.one("right", [("a", BIT), ("b", NOTHING)], [("c", NOTHING)], names))
        self.assertIsNone(self.one("right", [("a", BIT), ("b", NOTHING)], [("c", BIT)], names))
        self.assertIsNone(self.one("left", [("a", BIT), ("b", NOTHING)], [("c", BIT)], names))

    def test_shapes(self):
        narrow, wide, names = ("list", BIT, 1), ("list", ("number", 0, 2), 2), {"a": "b"}
        self.assertEqual(self.one("left", [("a", narrow)], [("b", wide)], names), [(0, 0)])
        self.assertIsNone(self.one("left", [("a", wide)], [("b", narrow)], names))
        self.assertIsNone(self.one("right", [("a", narrow)], [("b", wide)], names))
        self.assertEqual(self.one("right", [("a", wide)], [("b", narrow)], names), [(0, 0)])
        for side in SIDES:
            self.assertEqual(self.one(side, [("a", wide)], [("b", wide)], names), [(0, 0)])
            self.assertIsNone(self.one(side, [("a", BIT)], [("b", ("number", 0, 300))], names))
            self.assertIsNone(self.one(side, [("a", BIT)], [("b", ("number", 1, 2))], names))
            self.assertIsNone(self.one(side, [("a", NOTHING)], [("b", BIT)], names))

    def test_the_shapes_of_words_that_are_not_said(self):
        names = {"a": "a", "b": "b"}
        self.assertEqual(self.one("left", [("a", BIT)], [("b", NOTHING), ("a", BIT)], names), [(0, 1)])
        self.assertEqual(self.one("right", [("b", NOTHING), ("a", BIT)], [("a", BIT)], names), [(1, 0)])

    def test_sides_that_part(self):
        for side, words in [("left", [("a", NOTHING, 0)]), ("right", [("a", NOTHING, 0)])]:
            self.table([(side, words)], [(OTHER[side], words)], {"a": "a"}, None)

    def test_pairs_come_to(self):
        names = {"a": "a", "b": "b", "c": "c"}
        later = [("right", [("b", NOTHING, 2)]), END]
        g = [("left", [("a", NOTHING, 1)])] + later
        self.table(g, g, names, [(0, 0, 0, 0), (1, 1, 0, 0)])
        for state in [END, ("left", [("b", NOTHING, 2)]), ("right", [("c", NOTHING, 2)]), ("right", [("b", BIT, 2)])]:
            self.table(g, [g[0], state, END], names, None)
            self.table([g[0], state, END], g, names, None)
        self.table(g, [g[0], ("right", [("b", NOTHING, 0)])], names, None)
        # What no pair comes to is not looked at.
        self.table(g + [END], g + [("left", [("a", NOTHING, 3)])], names, [(0, 0, 0, 0), (1, 1, 0, 0)])
        more = [("left", [("a", NOTHING, 1), ("c", BIT, 3)])] + later + [END]
        self.table(g, more, names, [(0, 0, 0, 0), (1, 1, 0, 0)])

    def test_words_only_heard_lead_nowhere(self):
        names = {"a": "a"}
        g = [("left", [("a", NOTHING, 1)]), END]
        h = [("left", [("b", NOTHING, 0), ("a", NOTHING, 1)]), END]
        self.table(g, h, names, [(0, 0, 0, 1)])
        g = [("right", [("b", NOTHING, 0), ("a", NOTHING, 1)]), END]
        h = [("right", [("a", NOTHING, 1)]), END]
        self.table(g, h, names, [(0, 0, 1, 0)])

    def test_drawn(self):
        chance = chance_of(25)
        seen = {True: 0, False: 0}
        for _ in range(600):
            g = near_grammar(chance, chance.choice([1, 2, 4, 9]))
            h, names = relayed_kin(chance, g)
            self.assertIsNotNone(expected_table(g, h, names))
            if chance.random() < 0.6:
                number = chance.randrange(len(h))
                h[number] = changed_state(chance, h[number], len(h))
            if chance.random() < 0.3:
                names[chance.choice("abcd")] = chance.choice("abcd")
            if chance.random() < 0.1:
                names.pop(chance.choice("abcd"))
            expected = expected_table(g, h, names)
            self.assertEqual(relay_table(g, h, names), expected)
            seen[expected is None] += 1
        self.assertGreater(min(seen.values()), 150)

    def test_drawn_with_the_same_names(self):
        chance, found = chance_of(250), 0
        same = {name: name for name in "abcdefgh"}
        for _ in range(600):
            g = near_grammar(chance, chance.choice([1, 2, 3]))
            h = kin_of(chance, g, chance.choice([0, 1, 2]))
            expected = expected_table(g, h, same)
            self.assertEqual(relay_table(g, h, same), expected)
            found += expected is not None
        self.assertGreater(found, 150)

    def test_many_states(self):
        g = [("left", [("a", NOTHING, (k + 1) % 29), ("b", BIT, k)]) for k in range(29)] + [END]
        h = [("left", [("b", BIT, k), ("a", NOTHING, (k + 1) % 30)]) for k in range(30)]
        table = relay_table(g, h, {"a": "a", "b": "b"})
        self.assertEqual(len(table), 2 * 29 * 30)
        self.assertEqual(table, sorted(set(table)))

    def test_what_is_handed_in_stays(self):
        g, h, names = asking(), fragen(), wording()
        first = relay_table(g, h, names)
        second = relay_table(g, h, names)
        self.assertEqual((g, h, names), (asking(), fragen(), wording()))
        self.assertEqual(first, second)
        first.clear()
        self.assertEqual(second, TABLE)
        self.assertEqual(relay_table(g, h, names), TABLE)
        ends = [relay_table([END], [END], {}) for _ in range(2)]
        ends[0].append(1)
        self.assertEqual(ends[1], [])


class RelayTest(unittest.TestCase):

    def broken(self, told, side, piece, at, of):
        with self.assertRaises(Broken) as caught:
            told.pass_on(side, piece)
        self.assertEqual((caught.exception.at, caught.exception.side), (at, of))
        self.assertIs(type(caught.exception.at), int)
        self.assertIsNone(caught.exception.__cause__)

    def stays_broken(self, told, at, of):
        for side, piece in [
            ("left", []), ("right", []), ("right", [0]), ("left", [1, 1]), ("left", []), ("right", [255] * 9),
        ]:
            self.broken(told, side, piece, at, of)

    def test_step_by_step(self):
        told = relay()
        self.assertEqual(told.states(), (0, 0))
        for side, piece, passed, states in [
            ("left", [], [], (0, 0)),
            ("left", [0, 3], [], (0, 0)),
            ("right", [], [], (0, 0)),
            ("left", [104, 111], [], (0, 0)),
            ("left", [119, 1], [1, 3, 104, 111, 119], (1, 2)),
            ("left", [0], [], (1, 2)),
            ("right", [0], [], (1, 2)),
            ("right", [2, 1, 0, 0, 0], [2, 2, 1, 0, 2, 0], (1, 2)),
            ("right", [1, 7, 9], [0, 7], (0, 0)),
            ("right", [], [], (0, 0)),
            ("left", [], [0], (2, 1)),
            ("left", [77], [], (2, 1)),
            ("right", [77], [], (2, 1)),
            ("right", [], [], (2, 1)),
        ]:
            row = told.pass_on(side, piece)
            self.assertEqual((row, told.states()), (passed, states))
            self.assertEqual([type(row), type(told.states())], [list, tuple])
            self.assertEqual([type(number) for number in told.states()], [int, int])

    def test_byte_by_byte(self):
        told, passed = relay(), []
        for byte in [0, 3, 104, 111, 119]:
            passed += told.pass_on("left", [byte])
        self.assertEqual(passed, [1, 3, 104, 111, 119])
        passed = []
        for byte in [0, 2, 1, 0, 0, 1, 1, 1, 9]:
            passed += told.pass_on("right", [byte])
        self.assertEqual(passed, [2, 2, 1, 0, 2, 1, 1, 0, 9])
        self.assertEqual(told.states(), (0, 0))

    def test_several_at_once(self):
        told = relay()
        self.assertEqual(told.pass_on("left", [0, 0, 0, 0, 0, 0, 1]), [1, 0])
        self.assertEqual(told.pass_on("right", [0, 0, 0, 1, 0, 1, 1, 1, 1, 1, 2]), [2, 0, 2, 1, 0, 0, 1])
        self.assertEqual(told.pass_on("left", []), [1, 0])
        self.assertEqual(told.pass_on("right", []), [0, 1])
        self.assertEqual(told.pass_on("left", []), [1, 0])
        self.assertEqual(told.pass_on("right", []), [0, 2])
        self.assertEqual(told.pass_on("left", []), [0])
        self.assertEqual(told.states(), (2, 1))

    def test_what_comes_ahead_waits_for_its_sides_next_piece(self):
        told = relay()
        self.assertEqual(told.pass_on("right", [1, 5]), [])
        self.assertEqual(told.states(), (0, 0))
        self.assertEqual(told.pass_on("left", [0, 0]), [1, 0])
        # The right's bytes are due now, but none of its pieces has come since.
        self.assertEqual(told.states(), (1, 2))
        self.assertEqual(told.pass_on("left", []), [])
        self.assertEqual(told.pass_on("left", [1]), [])
        self.assertEqual(told.states(), (1, 2))
        self.assertEqual(told.pass_on("right", []), [0, 5])
        self.assertEqual(told.states(), (0, 0))
        self.assertEqual(told.pass_on("right", [1, 6]), [])
        self.assertEqual(told.pass_on("left", [0, 0]), [0])
        self.assertEqual(told.states(), (2, 1))

    def test_what_comes_ahead_is_told_broken_no_earlier(self):
        told = relay()
        self.assertEqual(told.pass_on("right", [0, 9]), [])
        self.assertEqual(told.pass_on("right", []), [])
        self.assertEqual(told.pass_on("left", [0, 0]), [1, 0])
        self.assertEqual(told.pass_on("left", []), [])
        self.assertEqual(told.pass_on("left", [255]), [])
        self.assertEqual(told.states(), (1, 2))
        self.broken(told, "right", [], 1, "right")
        self.stays_broken(told, 1, "right")

    def test_broken(self):
        told = relay()
        self.broken(told, "left", [2], 0, "left")
        self.stays_broken(told, 0, "left")
        told = relay()
        self.assertEqual(told.pass_on("left", [0, 3, 97]), [])
        self.broken(told, "left", [98, 37, 1], 4, "left")
        self.stays_broken(told, 4, "left")
        told = relay()
        self.assertEqual(told.pass_on("left", [0, 0]), [1, 0])
        self.broken(told, "right", [2], 0, "right")
        self.stays_broken(told, 0, "right")

    def test_each_wire_by_its_own_grammar(self):
        told = relay()
        # Ten signs would be right by the other grammar, and so would its third word.
        self.broken(told, "left", [0, 10], 1, "left")
        told = relay()
        self.assertEqual(told.pass_on("left", [0, 0]), [1, 0])
        self.broken(told, "right", [1, 10], 1, "right")
        told = relay()
        self.assertEqual(told.pass_on("left", [0, 0]), [1, 0])
        self.broken(told, "right", [0, 3], 1, "right")

    def test_broken_from_the_wires_beginning(self):
        told = relay()
        for _ in range(10):
            self.assertEqual(told.pass_on("left", [0, 1, 97]), [1, 1, 97])
            self.assertEqual(told.pass_on("right", [1, 9]), [0, 9])
        self.broken(told, "left", [0, 1, 127], 32, "left")
        self.stays_broken(told, 32, "left")
        told = relay()
        for _ in range(10):
            self.assertEqual(told.pass_on("left", [0, 1, 97]), [1, 1, 97])
            self.assertEqual(told.pass_on("right", [1, 9]), [0, 9])
        self.assertEqual(told.pass_on("left", [0, 0]), [1, 0])
        self.broken(told, "right", [0, 0, 3], 22, "right")

    def test_broken_at_once(self):
        """Messages that became whole by the same piece are not passed on then, nor later."""
        told = relay()
        told.pass_on("left", [0, 0])
        self.broken(told, "right", [0, 0, 0, 1, 1, 9], 5, "right")
        self.stays_broken(told, 5, "right")
        told = relay()
        told.pass_on("left", [0, 0])
        self.assertEqual(told.pass_on("right", [0]), [])
        self.broken(told, "right", [0, 2], 2, "right")

    def test_behind_an_end_nothing_is_looked_at(self):
        told = Relay([END], [END], [])
        for side in SIDES:
            self.assertEqual(told.pass_on(side, [255, 0]), [])
            self.assertEqual(told.pass_on(side, []), [])
        self.assertEqual(told.states(), (0, 0))

    def test_two_names_that_are_given_one(self):
        g = [("left", [("a", BIT, 0), ("b", BIT, 1)]), END]
        h = [("left", [("x", NOTHING, 1), ("c", BIT, 0)])]
        table = relay_table([g[0], g[0]], h, {"a": "c", "b": "c"})
        told = Relay([g[0], g[0]], h, table)
        self.assertEqual(told.pass_on("left", [0, 1, 1, 0, 1]), [1, 1, 1, 0])
        self.assertEqual(told.states(), (1, 0))

    def test_all_values_keep_their_bytes(self):
        s = ("choice", (("pair", ("text", 3), ("list", BIT, 2)), NOTHING))
        r = ("choice", (("pair", ("text", 9), ("list", ("number", 0, 9), 3)), NOTHING, BIT))
        values = [("of", 0, ("a b", [1, 0])), ("of", 0, ("", [])), ("of", 1, None)]
        for side, ones, others in [("left", s, r), ("right", r, s)]:
            g = [(side, [("a", NOTHING, 0), ("b", ones, 0)])]
            h = [(side, [("c", others, 0), ("d", NOTHING, 0)])]
            table = relay_table(g, h, {"a": "d", "b": "c"})
            sayer, hearer, names = (g, h, ["b", "c"]) if side == "left" else (h, g, ["c", "b"])
            talk = [(side, names[0], value) for value in values]
            wire = wires_of(sayer, talk)[SIDES.index(side)]
            passed = Relay(g, h, table).pass_on(side, wire)
            wires = (passed, []) if side == "left" else ([], passed)
            self.assertEqual(talk_by(hearer, *wires)[0], [(side, names[1], value) for value in values])

    def test_every_order_of_pieces(self):
        left, right = [[0], [1, 97, 0], [0], [1]], [[0, 1], [1, 1], [5, 1], [3]]
        for places in itertools.combinations(range(8), 4):
            pieces = {"left": list(left), "right": list(right)}
            self.follow(asking(), fragen(), wording(), [
                (side, pieces[side].pop(0)) for side in ["left" if k in places else "right" for k in range(8)]
            ])

    def follow(self, g, h, names, feeding):
        told, model = Relay(g, h, relay_table(g, h, names)), RelayModel(small(g), small(h), names)
        for side, piece in [part for side, piece in feeding for part in [(side, piece), (OTHER[side], [])]]:
            expected = model.pass_on(side, piece)
            if isinstance(expected, tuple):
                self.broken(told, side, list(piece), *expected[1:])
                continue
            self.assertEqual(told.pass_on(side, list(piece)), expected)
            self.assertEqual(told.states(), (model.states["left"], model.states["right"]))
        return model.broken is None

    def test_drawn_wires(self):
        chance = chance_of(26)
        seen = {True: 0, False: 0}
        for _ in range(250):
            g = near_grammar(chance, chance.choice([1, 2, 4, 9]))
            h, names = relayed_kin(chance, g)
            left, right = drawn_wires(chance, g, h, names)
            for _ in range(3):
                ones = damaged(chance, left) if chance.random() < 0.3 else left
                others = damaged(chance, right) if chance.random() < 0.3 else right
                seen[self.follow(g, h, names, drawn_feeding(chance, ones, others))] += 1
        self.assertGreater(min(seen.values()), 60)

    def test_sides_through_a_relay(self):
        """What the one said, name by name and value by value, the other reads by its own names."""
        chance, said = chance_of(260), 0
        for _ in range(200):
            g = near_grammar(chance, chance.choice([2, 4, 9]))
            h, names = relayed_kin(chance, g)
            said += self.talk_through(chance, g, h, names)
        self.assertGreater(said, 1000)

    def talk_through(self, chance, g, h, names):
        grammars = {"left": g, "right": h}
        sides = {side: Side(grammars[side], side) for side in SIDES}
        between = Relay(g, h, relay_table(g, h, names))
        to_relay, to_side = {"left": [], "right": []}, {"left": [], "right": []}
        said, heard = {"left": [], "right": []}, {"left": [], "right": []}
        for step in range(80):
            side = chance.choice(SIDES)
            state = grammars[side][sides[side].state()]
            if state[0] == side and step < 40:
                message, _ = drawn_message(chance, state)
                to_relay[side] += sides[side].say(*message[1:])
                said[side].append(message)
            cut = chance.randrange(len(to_relay[side]) + 1) if step < 40 else len(to_relay[side])
            to_side[OTHER[side]] += between.pass_on(side, to_relay[side][:cut])
            to_relay[side] = to_relay[side][cut:]
            cut = chance.randrange(len(to_side[side]) + 1) if step < 40 else len(to_side[side])
            heard[side] += sides[side].take(to_side[side][:cut])
            to_side[side] = to_side[side][cut:]
        self.assertEqual(heard["right"], [(side, names[name], value) for side, name, value in said["left"]])
        self.assertEqual([(side, names[name], value) for side, name, value in heard["left"]], said["right"])
        self.assertEqual(between.states(), (sides["left"].state(), sides["right"].state()))
        return len(said["left"]) + len(said["right"])

    def test_nothing_is_kept(self):
        g, h, table = asking(), fragen(), list(TABLE)
        told = Relay(g, h, table)
        self.assertEqual((g, h, table), (asking(), fragen(), TABLE))
        g[0][1].clear()
        g[1] = END
        h[0][1].reverse()
        h.pop()
        table.clear()
        piece = [0, 3, 104]
        self.assertEqual(told.pass_on("left", piece), [])
        self.assertEqual(piece, [0, 3, 104])
        piece[0] = 255
        piece.clear()
        passed = told.pass_on("left", [111, 119])
        self.assertEqual(passed, [1, 3, 104, 111, 119])
        passed.clear()
        self.assertEqual(told.pass_on("right", [0, 1, 1]), [2, 1, 1])
        self.assertEqual(told.states(), (1, 2))

    def test_what_is_handed_in_stays(self):
        g, h, table = asking(), fragen(), list(TABLE)
        told = Relay(g, h, table)
        told.pass_on("left", [0, 0])
        told.pass_on("right", [0, 1, 1, 1])
        self.broken(told, "right", [99], 4, "right")
        self.assertEqual((g, h, table), (asking(), fragen(), TABLE))

    def test_each_told_list_is_new(self):
        rows, one = [], relay()
        for told in [one, relay()]:
            rows += [told.pass_on("right", []), told.pass_on("left", [0, 0]), told.pass_on("left", [])]
            rows += [told.pass_on("right", [0, 0]), told.pass_on("right", [0, 0])]
        lists = lists_in(rows)[1:]
        self.assertEqual(len({id(part) for part in lists}), 10)
        self.assertEqual(rows[:5], rows[5:])
        for part in lists:
            part.append(9)
        self.assertEqual(one.pass_on("right", [0, 0]), [2, 0])

    def test_relays_are_their_own(self):
        g, h, table = asking(), fragen(), list(TABLE)
        first, second = Relay(g, h, table), Relay(g, h, table)
        first.pass_on("left", [0, 0, 1])
        self.assertEqual((first.states(), second.states()), ((1, 2), (0, 0)))
        self.broken(first, "right", [7], 0, "right")
        self.assertEqual(second.pass_on("left", [1]), [0])


def small(g):
    """The grammar with shapes of few values that read all rows of bytes of these tests alike."""
    return [state if state == END else (state[0], [
        (name, ("text", min(shape[1], 1)) if shape[0] == "text" else shape, behind) for name, shape, behind in state[1]
    ]) for state in g]


def drawn_wires(chance, g, h, names):
    """The wires of a talk through a relay: the left's by g, the right's by h."""
    grammars, states, wires = {"left": g, "right": h}, {"left": 0, "right": 0}, {"left": [], "right": []}
    given = {name: mine for mine, name in names.items()}
    for _ in range(15):
        side = g[states["left"]][0]
        if side == "end":
            break
        message, behind = drawn_message(chance, grammars[side][states[side]])
        place = [word[0] for word in grammars[side][states[side]][1]].index(message[1])
        wires[side] += expected_message(grammars[side], states[side], place, message[2])
        name = names[message[1]] if side == "left" else given[message[1]]
        states[OTHER[side]] = [word[2] for word in grammars[OTHER[side]][states[OTHER[side]]][1] if word[0] == name][0]
        states[side] = behind
    return wires["left"], wires["right"]


if __name__ == "__main__":
    unittest.main()
