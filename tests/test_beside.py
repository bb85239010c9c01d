"""Points [23] and [24], and point [3] as far as it speaks of talks side by side."""

import copy
import itertools
import unittest

from tests.drawn import chance_of, damaged, drawn_grammar, drawn_message
from tests.expected import KnownWires, expected_message, lists_in
from tests.odd import Sour, odd_things
from wireparley.beside import talks_beside, wires_beside
from wireparley.errors import Broken, NoTalk
from wireparley.wires import talk_by, wires_of

NOTHING = ("nothing",)
END = ("end",)
BIT = ("number", 0, 1)


def asking():
    return [
        ("left", [("ask", ("text", 9), 1), ("go", NOTHING, 2)]),
        ("right", [("yes", ("number", 0, 300), 0), ("no", NOTHING, 0), ("more", ("list", BIT, 3), 1)]),
        END,
    ]


def telling():
    return [("right", [("tell", BIT, 0), ("last", ("list", BIT, 2), 1)]), END]


def both():
    return [asking(), telling()]


SAID = [
    (1, "right", "tell", 1),
    (0, "left", "ask", "how"),
    (0, "right", "more", [1, 0]),
    (1, "right", "last", [1]),
    (0, "right", "yes", 258),
    (0, "left", "go", None),
]
TALKS = [
    [("left", "ask", "how"), ("right", "more", [1, 0]), ("right", "yes", 258), ("left", "go", None)],
    [("right", "tell", 1), ("right", "last", [1])],
]
LEFT = [0, 0, 3, 104, 111, 119, 0, 1]
RIGHT = [1, 0, 1, 0, 2, 2, 1, 0, 1, 1, 1, 1, 0, 0, 1, 2]


def drawn_beside(chance, grammars, most):
    """What is said side by side by chance, and the talks and the wires that it makes."""
    states, said = [0] * len(grammars), []
    talks, wires = [[] for _ in grammars], {"left": [], "right": []}
    while len(said) < most:
        open_ones = [k for k, g in enumerate(grammars) if g[states[k]] != END]
        if not open_ones:
            break
        k = chance.choice(open_ones)
        message, behind = drawn_message(chance, grammars[k][states[k]])
        names = [word[0] for word in grammars[k][states[k]][1]]
        wires[message[0]] += [k, *expected_message(grammars[k], states[k], names.index(message[1]), message[2])]
        states[k] = behind
        said.append((k, *message))
        talks[k].append(message)
    return said, talks, (wires["left"], wires["right"])


class BesideModel:
    """What is read by the words of point [24], the wires gone through in whatever order."""

    def __init__(self, grammars):
        self.grammars = grammars
        self.known = [KnownWires(g) for g in grammars]

    def look(self, states, side, wire, at):
        """("whole", k, end), ("broken", at), or None where it waits."""
        if at == len(wire):
            return None
        k = wire[at]
        if k not in range(len(self.grammars)) or self.grammars[k][states[k]] == END:
            return ("broken", at)
        if self.grammars[k][states[k]][0] != side:
            return None
        found = self.known[k].first_message(states[k], wire, at + 1)
        return ("whole", k, found[1]) if found and found[0] == "whole" else found

    def read(self, left, right, order):
        """order tells which wire is tried next: a function that gives a list of both sides."""
        wires, places = {"left": left, "right": right}, {"left": 0, "right": 0}
        states, talks = [0] * len(self.grammars), [[] for _ in self.grammars]
        while True:
            for side in order():
                found = self.look(states, side, wires[side], places[side])
                if found and found[0] == "whole":
                    break
            else:
                break
            k, end = found[1:]
            message, states[k] = self.known[k].whole[states[k]][tuple(wires[side][places[side] + 1:end])]
            talks[k].append(message)
            places[side] = end
        for side in ["left", "right"]:
            found = self.look(states, side, wires[side], places[side])
            if found:
                return ("broken", found[1], side)
        return ("talks", talks, (places["left"], places["right"]))


class WiresBesideTest(unittest.TestCase):

    def no_talk(self, grammars, said, at):
        with self.assertRaises(NoTalk) as caught:
            wires_beside(grammars, said)
        self.assertEqual(caught.exception.at, at)
        self.assertIs(type(caught.exception.at), int)

    def test_two(self):
        told = wires_beside(both(), SAID)
        self.assertEqual(told, (LEFT, RIGHT))
        self.assertEqual([type(told), type(told[0]), type(told[1])], [tuple, list, list])

    def test_one(self):
        said = [(0, "left", "ask", "a"), (0, "right", "no", None), (0, "left", "go", None)]
        self.assertEqual(wires_beside([asking()], said), ([0, 0, 1, 97, 0, 1], [0, 1]))
        for part in range(4):
            left, right = wires_beside([asking()], said[:part])
            self.assertEqual((left, right), ([0, 0, 1, 97, 0, 1][:[0, 4, 4, 6][part]], [0, 1][:[0, 0, 2, 2][part]]))

    def test_nine(self):
        grammars = [telling() for _ in range(9)]
        said = [(k, "right", "tell", k % 2) for k in [8, 0, 3, 3, 7, 8]]
        expected = [8, 0, 0, 0, 0, 0, 3, 0, 1, 3, 0, 1, 7, 0, 1, 8, 0, 0]
        self.assertEqual(wires_beside(grammars, said), ([], expected))
        self.no_talk(grammars, said + [(9, "right", "tell", 0)], 6)

    def test_nothing_said(self):
        for grammars in [[[END]], both(), [asking()] * 9]:
            self.assertEqual(wires_beside(grammars, []), ([], []))

    def test_the_same_grammar_twice(self):
        g = telling()
        said = [(1, "right", "last", []), (0, "right", "tell", 0), (0, "right", "last", [1, 1])]
        self.assertEqual(wires_beside([g, g], said), ([], [1, 1, 0, 0, 0, 0, 0, 1, 2, 1, 1]))
        self.no_talk([g, g], said + [(1, "right", "tell", 0)], 3)

    def test_every_order(self):
        """Only what is said by one grammar must keep its order."""
        for places in itertools.combinations(range(6), 2):
            talks = [[(0, *message) for message in TALKS[0]], [(1, *message) for message in TALKS[1]]]
            said = [talks[1 if k in places else 0].pop(0) for k in range(6)]
            wires = wires_beside(both(), said)
            self.assertEqual([len(wire) for wire in wires], [8, 16])
            self.assertEqual(talks_beside(both(), *wires), (TALKS, (8, 16)))

    def test_what_is_none(self):
        good = [(0, "left", "ask", "how"), (1, "right", "tell", 1)]
        for thing in [
            (), (0,), (0, "right"), (0, "right", "no"), (0, "right", "no", None, None), ("right", "no", None),
            [0, "right", "no", None], "no", None, 0, (None, "right", "no", None), ("0", "right", "no", None),
            (True, "right", "tell", 1), (False, "right", "no", None), (1.0, "right", "tell", 1),
            (-1, "right", "tell", 1), (-2, "right", "no", None), (2, "right", "tell", 1), (9, "right", "tell", 1),
            (255, "right", "tell", 1), (256, "right", "no", None), (10 ** 99, "right", "no", None),
            ((0,), "right", "no", None),
            (0, "left", "no", None), (0, "left", "ask", "how"), (0, "left", "go", None), (0, "end", "no", None),
            (0, "", "no", None), (0, "Right", "no", None), (0, None, "no", None), (1, "left", "tell", 1),
            (0, "right", "tell", 1), (0, "right", "go", None), (0, "right", "", None), (0, "right", "No", None),
            (0, "right", None, None), (1, "right", "no", None), (1, "right", "yes", 1),
            (0, "right", "no", 0), (0, "right", "yes", 301), (0, "right", "yes", True), (0, "right", "yes", None),
            (0, "right", "more", [1] * 4), (0, "right", "more", (1,)), (1, "right", "tell", 2),
            (1, "right", "last", [2]),
        ]:
            with self.subTest(thing=thing):
                self.no_talk(both(), good + [thing], 2)
                self.no_talk(both(), good + [thing] + SAID, 2)
                self.no_talk(both(), good + [thing, thing], 2)

    def test_behind_an_end(self):
        said = SAID + [(0, "left", "go", None)]
        self.no_talk(both(), said, 6)
        self.no_talk(both(), SAID + [(1, "right", "tell", 1)], 6)
        self.no_talk(both(), SAID + [(0, "end", "go", None)], 6)
        self.no_talk([[END], telling()], [(1, "right", "tell", 1), (0, "left", "go", None)], 1)

    def test_the_first_that_is_none(self):
        for at in range(len(SAID)):
            for bad in [None, (2, *SAID[at][1:]), (*SAID[at][:3], Sour())]:
                self.no_talk(both(), SAID[:at] + [bad] + [None] + SAID[at:], at)

    def test_whatever_things(self):
        for number, thing in enumerate(odd_things()):
            with self.subTest(number):
                self.no_talk(both(), [thing], 0)
                self.no_talk(both(), SAID[:3] + [thing], 3)
                for place in range(4):
                    message = list(SAID[0])
                    message[place] = thing
                    self.no_talk(both(), [tuple(message)], 0)
                    self.no_talk(both(), SAID[:2] + [(0, "left", "x", 1)[:place] + (thing,) * (4 - place)], 2)

    def test_drawn(self):
        chance = chance_of(23)
        for _ in range(150):
            grammars = [drawn_grammar(chance, chance.choice([1, 2, 4, 30])) for _ in range(chance.choice([1, 2, 3, 9]))]
            said, _, wires = drawn_beside(chance, grammars, 25)
            self.assertEqual(wires_beside(grammars, said), wires)

    def test_one_grammar_is_its_wires_with_noughts(self):
        chance = chance_of(230)
        for _ in range(60):
            g = drawn_grammar(chance, 4)
            said, talks, _ = drawn_beside(chance, [g], 10)
            left, right = wires_beside([g], said)
            plain = wires_of(g, talks[0])
            noughts = [sum(1 for message in talks[0] if message[0] == side) for side in ["left", "right"]]
            self.assertEqual([len(left), len(right)], [len(wire) + more for wire, more in zip(plain, noughts)])

    def test_what_is_handed_in_stays(self):
        grammars, said = both(), copy.deepcopy(SAID)
        first = wires_beside(grammars, said)
        self.assertEqual((grammars, said), (both(), SAID))
        second = wires_beside(grammars, said)
        self.assertEqual(first, second)
        lists = lists_in((first, second))
        self.assertEqual(len({id(part) for part in lists}), 4)
        first[0].append(9)
        first[1].clear()
        self.assertEqual(wires_beside(grammars, said), (LEFT, RIGHT))


class TalksBesideTest(unittest.TestCase):

    def broken(self, grammars, left, right, at, side):
        with self.assertRaises(Broken) as caught:
            talks_beside(grammars, left, right)
        self.assertEqual((caught.exception.at, caught.exception.side), (at, side))
        self.assertIs(type(caught.exception.at), int)
        self.assertIsNone(caught.exception.__cause__)

    def test_two(self):
        told = talks_beside(both(), LEFT, RIGHT)
        self.assertEqual(told, (TALKS, (8, 16)))
        self.assertEqual([type(told), type(told[0]), type(told[1])], [tuple, list, tuple])
        self.assertEqual([type(part) for part in told[0] + list(told[1])], [list, list, int, int])

    def test_no_bytes(self):
        for grammars in [[[END]], both(), [asking()] * 9]:
            self.assertEqual(talks_beside(grammars, [], []), ([[] for _ in grammars], (0, 0)))

    def test_nine(self):
        grammars = [telling() for _ in range(8)] + [asking()]
        wires = ([8, 1], [7, 0, 1, 0, 1, 0])
        expected = [[("right", "last", [])], *[[] for _ in range(6)], [("right", "tell", 1)], [("left", "go", None)]]
        self.assertEqual(talks_beside(grammars, *wires), (expected, (2, 6)))
        self.broken(grammars, [9], [], 0, "left")
        self.broken(grammars, [], [9], 0, "right")

    def test_cut_anywhere(self):
        model = BesideModel([telling(), telling_by_left()])
        said = [(0, "right", "tell", 1), (1, "left", "add", [1]), (0, "right", "last", [1, 0]),
                (1, "right", "ok", None), (1, "left", "stop", None)]
        left, right = wires_beside(model.grammars, said)
        for first, second in itertools.product(range(len(left) + 1), range(len(right) + 1)):
            expected = model.read(left[:first], right[:second], lambda: ["left", "right"])
            self.assertEqual(expected[0], "talks")
            self.assertEqual(talks_beside(model.grammars, left[:first], right[:second]), expected[1:])

    def test_a_number_whose_message_is_not_whole_waits(self):
        for cut, places in [(1, (0, 0)), (2, (0, 0)), (5, (0, 0)), (6, (6, 0)), (7, (6, 0)), (8, (6, 0))]:
            talks = [TALKS[0][:1 if places[0] else 0], []]
            self.assertEqual(talks_beside(both(), LEFT[:cut], []), (talks, places))
        self.assertEqual(talks_beside(both(), [], RIGHT[:2]), ([[], []], (0, 0)))
        self.assertEqual(talks_beside(both(), [], RIGHT[:3]), ([[], TALKS[1][:1]], (0, 3)))

    def test_a_number_of_the_other_sides_turn_waits(self):
        self.assertEqual(talks_beside(both(), [1], []), ([[], []], (0, 0)))
        self.assertEqual(talks_beside(both(), [], [0]), ([[], []], (0, 0)))
        self.assertEqual(talks_beside(both(), [], [0, 2, 0, 1, 0, 1]), ([[], []], (0, 0)))
        self.assertEqual(talks_beside(both(), [0, 0, 0, 0, 1], [1, 0, 1]),
                         ([[("left", "ask", "")], [("right", "tell", 1)]], (3, 3)))

    def test_what_stands_behind_what_waits_is_not_looked_at(self):
        self.assertEqual(talks_beside(both(), [1, 255, 255], [0, 99, 99]), ([[], []], (0, 0)))
        self.assertEqual(talks_beside(both(), [0, 0, 0, 0, 77], []), ([[("left", "ask", "")], []], (3, 0)))
        self.assertEqual(talks_beside(both(), [0, 0, 0, 1, 9], [1, 0]), ([[("left", "ask", "")], []], (3, 0)))
        self.assertEqual(talks_beside(both(), [], [0, 1, 9, 1, 0, 1]), ([[], []], (0, 0)))

    def test_a_number_that_is_no_grammars(self):
        self.broken(both(), [2], [], 0, "left")
        self.broken(both(), [255, 0, 0], [], 0, "left")
        self.broken(both(), [], [2], 0, "right")
        self.broken(both(), LEFT[:6] + [2], RIGHT, 6, "left")
        self.broken(both(), LEFT[:6], RIGHT[:3] + [7], 3, "right")
        self.broken([[END]], [1], [], 0, "left")

    def test_a_number_whose_talk_has_ended(self):
        for side in ["left", "right"]:
            wires = [[0], []] if side == "left" else [[], [0]]
            self.broken([[END]], *wires, 0, side)
            self.broken([[END], asking()], *wires, 0, side)
        self.broken(both(), LEFT + [0], RIGHT, 8, "left")
        self.broken(both(), LEFT + [1, 0], RIGHT, 8, "left")
        self.broken(both(), LEFT, RIGHT + [0, 1], 16, "right")
        self.broken(both(), LEFT, RIGHT + [1], 16, "right")
        # The other side's number is broken too, as it can never be due any more.
        self.broken(both(), [0, 1], [0], 0, "right")
        self.broken(both(), [1], [1, 1, 0], 0, "left")

    def test_bytes_that_begin_no_message(self):
        self.broken(both(), [0, 2], [], 1, "left")
        self.broken(both(), [0, 0, 10], [], 2, "left")
        self.broken(both(), [0, 0, 3, 97, 37], [], 4, "left")
        self.broken(both(), [0, 0, 0, 0, 2], [0, 1], 4, "left")
        self.broken(both(), [], [1, 2], 1, "right")
        self.broken(both(), [], [1, 0, 1, 1, 1, 2, 1, 2], 7, "right")
        self.broken(both(), [0, 0, 0], [0, 0, 1, 45], 3, "right")
        self.broken(both(), [0, 0, 0], [0, 0, 2], 2, "right")

    def test_the_left_wires_first(self):
        self.broken(both(), [2], [2], 0, "left")
        self.broken(both(), [0, 0, 0, 2], [2], 3, "left")
        self.broken(both(), [0, 9], [1, 0, 1, 1, 9], 1, "left")
        # It breaks on the left only behind what the right one says, which breaks behind that itself.
        self.broken(both(), [0, 0, 0, 0, 9], [0, 1, 9], 4, "left")
        self.broken(both(), [0, 0, 0, 1], [1, 1, 0, 9], 3, "left")
        # What breaks on the right does not keep the left from being read to where it breaks.
        self.broken(both(), [0, 0, 0, 1], [0, 2, 0, 9], 3, "right")
        self.broken([asking(), asking()], [0, 0, 0, 1, 0, 0, 0, 3], [9], 0, "right")
        self.broken([asking(), asking()], [0, 0, 0, 1, 0, 0, 3], [9], 6, "left")

    def test_the_other_is_read_to_its_end(self):
        """What is broken on one wire is told, though the other one could be read on behind it, or waits."""
        self.broken(both(), [2], RIGHT, 0, "left")
        self.broken(both(), LEFT, [2] + RIGHT, 0, "right")
        self.broken(both(), [1], [2], 0, "right")
        self.broken(both(), [0, 0], [2], 0, "right")

    def test_whatever_order(self):
        """All wires of a few bytes: all orders of going through them read the same, and so does the program."""
        grammars = [[("left", [("a", NOTHING, 1)]), ("right", [("b", NOTHING, 2), ("c", BIT, 0)]), END], telling()]
        model = BesideModel(grammars)
        chance = chance_of(24)
        seen = {"talks": 0, "broken": 0}
        rows = [list(row) for length in range(5) for row in itertools.product([0, 1, 2], repeat=length)]
        for left, right in itertools.product(rows, rows):
            orders = [lambda: ["left", "right"], lambda: ["right", "left"]]
            if chance.random() < 0.1:
                orders.append(lambda: chance.sample(["left", "right"], 2))
            told = [model.read(left, right, order) for order in orders]
            self.assertEqual(told[1:], told[:1] * (len(told) - 1))
            seen[told[0][0]] += 1
            if told[0][0] == "talks":
                self.assertEqual(talks_beside(grammars, left, right), told[0][1:])
            else:
                self.broken(grammars, left, right, *told[0][1:])
        self.assertGreater(min(seen.values()), 500)

    def test_drawn(self):
        chance = chance_of(240)
        seen = {"talks": 0, "broken": 0}
        for _ in range(120):
            grammars = [drawn_grammar(chance, chance.choice([1, 2, 4, 30])) for _ in range(chance.choice([1, 2, 3, 9]))]
            model = BesideModel(grammars)
            _, talks, (left, right) = drawn_beside(chance, grammars, 20)
            self.assertEqual(talks_beside(grammars, left, right), (talks, (len(left), len(right))))
            for _ in range(8):
                ones, others = left, right
                for _ in range(chance.choice([1, 1, 2])):
                    ones = damaged(chance, ones) if chance.random() < 0.5 else ones
                    others = damaged(chance, others) if chance.random() < 0.5 else others
                expected = model.read(ones, others, lambda: chance.sample(["left", "right"], 2))
                seen[expected[0]] += 1
                if expected[0] == "talks":
                    self.assertEqual(talks_beside(grammars, ones, others), expected[1:])
                else:
                    self.broken(grammars, ones, others, *expected[1:])
        self.assertGreater(min(seen.values()), 100)

    def test_one_grammar_is_read_as_by_itself(self):
        chance = chance_of(241)
        for _ in range(60):
            g = drawn_grammar(chance, 4)
            _, talks, wires = drawn_beside(chance, [g], 12)
            self.assertEqual(talks_beside([g], *wires)[0][0], talk_by(g, *wires_of(g, talks[0]))[0])

    def test_far_ahead(self):
        grammars = both() + [telling()]
        said = [(0, "left", "ask", "x"), (0, "right", "no", None)] * 600
        said += [(k, "right", "tell", 1) for k in [1, 2]] * 400
        left, right = wires_beside(grammars, said)
        talks, places = talks_beside(grammars, left, right)
        self.assertEqual([len(talk) for talk in talks], [1200, 400, 400])
        self.assertEqual(places, (len(left), len(right)))

    def test_what_is_handed_in_stays(self):
        grammars, left, right = both(), list(LEFT), list(RIGHT)
        first = talks_beside(grammars, left, right)
        self.assertEqual((grammars, left, right), (both(), LEFT, RIGHT))
        second = talks_beside(grammars, left, right)
        self.assertEqual(first, second)
        lists = lists_in((first, second))
        self.assertEqual(len({id(part) for part in lists}), len(lists))
        for part in lists:
            part.append("more")
        self.assertEqual(talks_beside(grammars, left, right), (TALKS, (8, 16)))
        self.broken(grammars, left + [9], right, 8, "left")
        self.assertEqual((grammars, left, right), (both(), LEFT, RIGHT))

    def test_the_same_grammar_twice_has_two_talks(self):
        g = telling()
        talks, _ = talks_beside([g, g], [], [0, 0, 1, 1, 1, 0])
        self.assertEqual(talks, [[("right", "tell", 1)], [("right", "last", [])]])


def telling_by_left():
    return [("left", [("add", ("list", BIT, 2), 1), ("stop", NOTHING, 2)]), ("right", [("ok", NOTHING, 0)]), END]


if __name__ == "__main__":
    unittest.main()
