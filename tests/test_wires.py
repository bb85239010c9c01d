"""Points [11] and [12], and point [3] as far as it speaks of wires."""

import copy
import itertools
import unittest

from tests.drawn import chance_of, damaged, drawn_grammar, drawn_talk
from tests.expected import KnownWires, expected_wires, lists_in, values_of
from tests.odd import odd_things
from wireparley.errors import Broken, NoTalk
from wireparley.talks import is_grammar, state_behind
from wireparley.wires import talk_by, wires_of

NOTHING = ("nothing",)
END = ("end",)
BIT = ("number", 0, 1)


def asking():
    return [
        ("left", [("ask", ("text", 9), 1), ("go", NOTHING, 2)]),
        ("right", [("yes", ("number", 0, 300), 0), ("no", NOTHING, 0), ("ask", ("list", BIT, 2), 3)]),
        END,
        ("left", [
            ("yes", ("pair", NOTHING, BIT), 1), ("fix", ("number", 7, 7), 3), ("end", ("choice", (NOTHING, BIT)), 2),
        ]),
    ]


def few():
    """A grammar of few values, so that all its talks of some bytes can be written down."""
    return [
        ("left", [("a", NOTHING, 0), ("b", BIT, 1), ("c", ("list", NOTHING, 2), 2)]),
        ("right", [("a", ("list", BIT, 1), 0), ("b", NOTHING, 1)]),
        END,
    ]


ASK = ("left", "ask", "how")
GO = ("left", "go", None)
YES = ("right", "yes", 258)
NO = ("right", "no", None)
BACK = ("right", "ask", [0, 1])
SO = ("left", "yes", (None, 1))
FIX = ("left", "fix", 7)
LAST = ("left", "end", ("of", 1, 0))

# Each row: a talk of asking(), both its wires and the state behind it.
ROWS = [
    ([], [], [], 0),
    ([GO], [1], [], 2),
    ([ASK], [0, 3, 104, 111, 119], [], 1),
    ([("left", "ask", "")], [0, 0], [], 1),
    ([ASK, YES], [0, 3, 104, 111, 119], [0, 1, 2], 0),
    ([ASK, NO], [0, 3, 104, 111, 119], [1], 0),
    ([ASK, NO, GO], [0, 3, 104, 111, 119, 1], [1], 2),
    ([ASK, BACK], [0, 3, 104, 111, 119], [2, 2, 0, 1], 3),
    ([ASK, BACK, SO], [0, 3, 104, 111, 119, 0, 1], [2, 2, 0, 1], 1),
    ([ASK, BACK, FIX, FIX, LAST], [0, 3, 104, 111, 119, 1, 1, 2, 1, 0], [2, 2, 0, 1], 2),
    ([ASK, BACK, SO, YES, GO], [0, 3, 104, 111, 119, 0, 1, 1], [2, 2, 0, 1, 0, 1, 2], 2),
]


def answer_of(g, left, right):
    """What talk_by answers, in the form of KnownWires.read."""
    try:
        talk, state, places = talk_by(g, left, right)
    except Broken as error:
        return ("broken", error.at, error.side)
    return ("talk", talk, state, places)


class WiresOfTest(unittest.TestCase):

    def refused(self, g, talk, at):
        with self.assertRaises(NoTalk) as caught:
            wires_of(g, talk)
        self.assertEqual(caught.exception.at, at)
        self.assertIs(type(caught.exception.at), int)

    def test_rows(self):
        self.assertTrue(is_grammar(asking()))
        for talk, left, right, state in ROWS:
            with self.subTest(talk=talk):
                self.assertEqual(state_behind(asking(), talk), state)
                self.assertEqual(wires_of(asking(), talk), (left, right))

    def test_kinds(self):
        for talk, _, _, _ in ROWS:
            told = wires_of(asking(), talk)
            self.assertIs(type(told), tuple)
            for wire in told:
                self.assertIs(type(wire), list)
                for byte in wire:
                    self.assertIs(type(byte), int)

    def test_the_empty_talk(self):
        self.assertEqual(wires_of([END], []), ([], []))
        self.assertEqual(wires_of(asking(), []), ([], []))

    def test_one_side_alone(self):
        left = [("left", [("on", ("number", 0, 9), 0), ("off", NOTHING, 0)])]
        talk = [("left", "on", 5), ("left", "off", None), ("left", "on", 0)]
        self.assertEqual(wires_of(left, talk), ([0, 5, 1, 0, 0], []))
        right = [("right", [("on", ("number", 0, 9), 0), ("off", NOTHING, 0)])]
        self.assertEqual(wires_of(right, [("right", "off", None), ("right", "on", 9)]), ([], [1, 0, 9]))

    def test_a_word_has_the_place_in_its_own_state(self):
        g = [
            ("left", [(name, BIT, 1) for name in "abcdefghi"]),
            ("right", [(name, BIT, 2) for name in "ihgfedcba"]),
            ("left", [(name, NOTHING, 0) for name in "ba"]),
        ]
        for place, name in enumerate("abcdefghi"):
            talk = [("left", name, 1), ("right", name, 0), ("left", "a", None)]
            self.assertEqual(wires_of(g, talk), ([place, 1, 1], [8 - place, 0]))

    def test_values_with_no_bytes(self):
        shapes = [NOTHING, ("number", -3, -3), ("pair", NOTHING, ("number", 1, 1))]
        g = [("right", [(name, shape, 0) for name, shape in zip("abc", shapes)])]
        talk = [("right", "c", (None, 1)), ("right", "a", None), ("right", "b", -3)]
        self.assertEqual(wires_of(g, talk), ([], [2, 0, 1]))
        self.assertEqual(talk_by(g, [], [2, 0, 1]), (talk, 0, (0, 3)))

    def test_what_is_no_talk(self):
        self.refused(asking(), [NO], 0)
        self.refused(asking(), [("right", "go", None)], 0)
        self.refused(asking(), [("left", "no", None)], 0)
        self.refused(asking(), [("left", "ask", "%")], 0)
        self.refused(asking(), [ASK, ASK], 1)
        self.refused(asking(), [ASK, ("right", "yes", 301)], 1)
        self.refused(asking(), [ASK, ("right", "yes", True)], 1)
        self.refused(asking(), [GO, GO], 1)
        self.refused(asking(), [GO, END], 1)
        self.refused(asking(), [ASK, BACK, FIX, FIX, LAST, LAST, None], 5)
        self.refused(asking(), [ASK, NO] * 900 + [NO, NO], 1800)
        self.refused([END], [("end", "a", None)], 0)

    def test_whatever_things(self):
        plain = [None, "", (), [], ("left",), ["left", "go", None], 0, ("left", "go")]
        for k, thing in enumerate(odd_things() + plain):
            with self.subTest(k):
                for message in [thing, (thing, "go", None), ("left", thing, None), ("left", "go", [thing]),
                                ("left", "ask", (thing,)), (thing, thing, thing)]:
                    self.refused(asking(), [message], 0)
                    self.refused(asking(), [message, GO], 0)
                    self.refused(asking(), [ASK, NO, message, GO], 2)
                    self.refused(asking(), [ASK, NO, GO, message], 3)

    def test_drawn_talks(self):
        chance = chance_of(11)
        for _ in range(150):
            g = drawn_grammar(chance, chance.choice([1, 2, 4, 8]))
            talk = drawn_talk(chance, g, chance.choice([0, 1, 5, 40]))
            self.assertEqual(wires_of(g, talk), expected_wires(g, talk))

    def test_what_is_handed_in_stays(self):
        for talk, left, right, _ in ROWS:
            g, kept = asking(), copy.deepcopy(talk)
            for _ in range(3):
                self.assertEqual(wires_of(g, talk), (left, right))
            self.assertEqual(talk, kept)
            self.assertEqual(g, asking())
        g, talk = asking(), [ASK, NO, ("left", "ask", ["x"])]
        self.refused(g, talk, 2)
        self.assertEqual((g, talk), (asking(), [ASK, NO, ("left", "ask", ["x"])]))

    def test_each_told_list_is_new(self):
        for talk, left, right, _ in ROWS:
            g = asking()
            first, second = wires_of(g, talk), wires_of(g, talk)
            told = [*first, *second]
            self.assertEqual(len({id(wire) for wire in told}), 4)
            for wire in first:
                wire.insert(0, 77)
            self.assertEqual(second, (left, right))
            self.assertEqual(wires_of(g, talk), (left, right))

    def test_nothing_is_kept(self):
        g, bits = asking(), [0, 1]
        talk = [ASK, ("right", "ask", bits)]
        told = wires_of(g, talk)
        bits[0] = 1
        talk.append(FIX)
        self.assertEqual(told, ([0, 3, 104, 111, 119], [2, 2, 0, 1]))
        self.assertEqual(wires_of(g, talk), ([0, 3, 104, 111, 119, 1], [2, 2, 1, 1]))
        bits.append(0)
        self.refused(g, talk, 1)
        bits.clear()
        g[1][1].insert(0, ("new", NOTHING, 0))
        self.assertEqual(wires_of(g, talk), ([0, 3, 104, 111, 119, 1], [3, 0]))


class TalkByTest(unittest.TestCase):

    def broken(self, g, left, right, at, side):
        with self.assertRaises(Broken) as caught:
            talk_by(g, left, right)
        self.assertEqual((caught.exception.at, caught.exception.side), (at, side))
        self.assertIs(type(caught.exception.at), int)

    def test_both_wires_whole(self):
        for talk, left, right, state in ROWS:
            with self.subTest(talk=talk):
                self.assertEqual(talk_by(asking(), left, right), (talk, state, (len(left), len(right))))

    def test_kinds(self):
        for _, left, right, _ in ROWS:
            told = talk_by(asking(), left, right)
            self.assertIs(type(told), tuple)
            self.assertEqual([type(part) for part in told], [list, int, tuple])
            self.assertEqual([type(place) for place in told[2]], [int, int])
            for message in told[0]:
                self.assertIs(type(message), tuple)

    def test_each_cut_by_hand(self):
        g = asking()
        left, right = [0, 3, 104, 111, 119, 0, 1, 1], [2, 2, 0, 1, 0, 1, 2]
        self.assertEqual(talk_by(g, left[:4], right), ([], 0, (0, 0)))
        self.assertEqual(talk_by(g, left[:5], []), ([ASK], 1, (5, 0)))
        self.assertEqual(talk_by(g, left[:5], right[:3]), ([ASK], 1, (5, 0)))
        self.assertEqual(talk_by(g, left, right[:3]), ([ASK], 1, (5, 0)))
        self.assertEqual(talk_by(g, left[:5], right), ([ASK, BACK], 3, (5, 4)))
        self.assertEqual(talk_by(g, left[:6], right), ([ASK, BACK], 3, (5, 4)))
        self.assertEqual(talk_by(g, left, right[:4]), ([ASK, BACK, SO], 1, (7, 4)))
        self.assertEqual(talk_by(g, left, right[:6]), ([ASK, BACK, SO], 1, (7, 4)))
        self.assertEqual(talk_by(g, left[:7], right), ([ASK, BACK, SO, YES], 0, (7, 7)))
        self.assertEqual(talk_by(g, left, right), ([ASK, BACK, SO, YES, GO], 2, (8, 7)))

    def test_each_cut(self):
        for talk, left, right, _ in ROWS:
            for one in range(len(left) + 1):
                for other in range(len(right) + 1):
                    told = talk_by(asking(), left[:one], right[:other])
                    count = len(told[0])
                    self.assertEqual(told[0], talk[:count])
                    self.assertEqual(told[1], state_behind(asking(), talk[:count]))
                    wires = wires_of(asking(), talk[:count])
                    self.assertEqual(told[2], (len(wires[0]), len(wires[1])))
                    # The next message is not whole in what there is.
                    if count < len(talk):
                        longer = wires_of(asking(), talk[:count + 1])
                        self.assertTrue(len(longer[0]) > one or len(longer[1]) > other)

    def test_bytes_left_over_behind_an_end(self):
        for more in [[0], [255], [255, 255, 0], [1, 37]]:
            self.assertEqual(talk_by(asking(), [1] + more, []), ([GO], 2, (1, 0)))
            self.assertEqual(talk_by(asking(), [1], more), ([GO], 2, (1, 0)))
            self.assertEqual(talk_by(asking(), [1] + more, more), ([GO], 2, (1, 0)))
            self.assertEqual(talk_by([END], more, more), ([], 0, (0, 0)))
            self.assertEqual(talk_by([END], [], more), ([], 0, (0, 0)))

    def test_bytes_left_over_of_the_other_side(self):
        for more in [[0], [255], [3, 255], [9] * 50]:
            self.assertEqual(talk_by(asking(), [], more), ([], 0, (0, 0)))
            self.assertEqual(talk_by(asking(), [0, 3, 104], more), ([], 0, (0, 0)))
            self.assertEqual(talk_by(asking(), [0, 0] + more, []), ([("left", "ask", "")], 1, (2, 0)))
            self.assertEqual(talk_by(asking(), [0, 0] + more, [0, 1]), ([("left", "ask", "")], 1, (2, 0)))

    def test_no_words_place(self):
        for byte in [2, 3, 9, 255]:
            self.broken(asking(), [byte], [], 0, "left")
            self.broken(asking(), [byte, 0, 0], [1, 1], 0, "left")
            self.broken(asking(), [0, 0, byte], [1], 2, "left")
        for byte in [3, 4, 255]:
            self.broken(asking(), [0, 0], [byte], 0, "right")
            self.broken(asking(), [0, 0], [byte, 0], 0, "right")
            self.broken(asking(), [0, 0, 0, 0, 9], [1, byte], 1, "right")
            self.broken(asking(), [0, 0, 0, 0, 9], [0, 1, 2, byte], 3, "right")
        self.broken(asking(), [0, 0, 3], [2, 0], 2, "left")
        g = [("left", [(name, NOTHING, 0) for name in "abcdefghi"])]
        self.broken(g, [8, 7, 9, 1], [], 2, "left")

    def test_bytes_within_a_value(self):
        self.broken(asking(), [0, 10], [], 1, "left")
        self.broken(asking(), [0, 10, 97, 97], [], 1, "left")
        self.broken(asking(), [0, 3, 37], [], 2, "left")
        self.broken(asking(), [0, 3, 97, 31, 97, 97], [], 3, "left")
        self.broken(asking(), [0, 3, 97, 97, 127], [255], 4, "left")
        self.broken(asking(), [0, 0], [0, 2], 1, "right")
        self.broken(asking(), [0, 0], [0, 1, 45], 2, "right")
        self.broken(asking(), [0, 0], [0, 1, 45, 1, 1], 2, "right")
        self.broken(asking(), [0, 0], [2, 3], 1, "right")
        self.broken(asking(), [0, 0], [2, 2, 0, 2], 3, "right")
        self.broken(asking(), [0, 0], [2, 2, 2], 2, "right")
        self.broken(asking(), [0, 0, 0, 2], [2, 0], 3, "left")
        self.broken(asking(), [0, 0, 1, 1, 2, 2, 0], [2, 0], 5, "left")

    def test_broken_behind_messages(self):
        self.broken(asking(), [0, 0] * 50 + [2], [1] * 50, 100, "left")
        self.assertEqual(talk_by(asking(), [0, 0] * 50 + [2], [1] * 49)[1:], (1, (100, 49)))
        self.broken(asking(), [0, 0] * 50, [1] * 49 + [0, 2], 50, "right")
        self.assertEqual(talk_by(asking(), [0, 0] * 49, [1] * 49 + [0, 2])[1:], (0, (98, 49)))

    def test_every_pair_of_wires(self):
        known = KnownWires(few())
        alphabet = [0, 1, 2, 3]
        wires = [list(row) for length in range(5) for row in itertools.product(alphabet, repeat=length)]
        shorter = [wire for wire in wires if len(wire) < 4]
        for left, right in itertools.chain(itertools.product(wires, shorter), itertools.product(shorter, wires)):
            expected = known.read(left, right)
            if answer_of(few(), left, right) != expected:
                self.assertEqual((left, right, answer_of(few(), left, right)), (left, right, expected))

    def test_just_one_talk_is_read(self):
        """Point [3]: unlike talks have unlike wires, and each is read from its own."""
        talks = [[]]
        for talk in talks:
            state = few()[state_behind(few(), talk)]
            if len(talk) < 4 and state != END:
                talks.extend(talk + [(state[0], name, value)] for name, s, _ in state[1] for value in values_of(s))
        seen = {}
        for talk in talks:
            left, right = wires_of(few(), talk)
            self.assertEqual(talk_by(few(), left, right), (talk, state_behind(few(), talk), (len(left), len(right))))
            self.assertNotIn((tuple(left), tuple(right)), seen)
            seen[(tuple(left), tuple(right))] = talk
        self.assertGreater(len(seen), 250)

    def test_drawn_wires(self):
        chance = chance_of(12)
        broken = 0
        for _ in range(120):
            g = drawn_grammar(chance, chance.choice([1, 2, 4, 30]))
            known = KnownWires(g)
            for _ in range(12):
                left, right = expected_wires(g, drawn_talk(chance, g, chance.choice([1, 5, 30])))
                self.assertEqual(answer_of(g, left, right), known.read(left, right))
                for pair in [(damaged(chance, left), right), (left, damaged(chance, right)),
                             (damaged(chance, left), damaged(chance, right))]:
                    expected = known.read(*pair)
                    self.assertEqual(answer_of(g, *pair), expected)
                    broken += expected[0] == "broken"
        self.assertGreater(broken, 300)

    def test_long_wires(self):
        g = asking()
        talk = [ASK, YES] * 999 + [GO]
        left, right = wires_of(g, talk)
        self.assertEqual(talk_by(g, left, right), (talk, 2, (len(left), len(right))))
        self.assertEqual(talk_by(g, [0, 0] + [9] * 9998, [])[2], (2, 0))

    def test_what_is_handed_in_stays(self):
        for left, right in [(row[1] + [5], row[2] + [6]) for row in ROWS] + [([0, 10], []), ([0, 0], [0, 9])]:
            g, kept = asking(), (list(left), list(right))
            first, second = answer_of(g, left, right), answer_of(g, left, right)
            self.assertEqual(first, second)
            self.assertEqual((left, right), kept)
            self.assertEqual(g, asking())

    def test_each_told_list_is_new(self):
        g = asking()
        left, right = [0, 0, 1], [2, 2, 0, 1]
        first, second = talk_by(g, left, right), talk_by(g, left, right)
        told = lists_in(first) + lists_in(second) + [left, right]
        self.assertEqual(len({id(one) for one in told}), len(told))
        for one in lists_in(first):
            one.append("more")
        self.assertEqual(second, ([("left", "ask", ""), BACK, FIX], 3, (3, 4)))
        self.assertEqual(talk_by(g, left, right), second)

    def test_nothing_is_kept(self):
        g = asking()
        left, right = [0, 0], [1]
        told = talk_by(g, left, right)
        left.append(1)
        right[0] = 3
        self.assertEqual(told, ([("left", "ask", ""), NO], 0, (2, 1)))
        self.broken(g, left, right, 0, "right")
        right[0] = 1
        self.assertEqual(talk_by(g, left, right), ([("left", "ask", ""), NO, GO], 2, (3, 1)))
        g[0][1].pop()
        self.broken(g, left, right, 2, "left")


if __name__ == "__main__":
    unittest.main()
