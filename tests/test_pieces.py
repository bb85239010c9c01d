"""Point [13], and point [3] as far as it speaks of wires that come in pieces."""

import itertools
import unittest

from tests.drawn import chance_of, damaged, drawn_feeding, drawn_grammar, drawn_talk
from tests.expected import KnownWires, expected_wires, lists_in
from wireparley.errors import Broken
from wireparley.pieces import Reader
from wireparley.wires import talk_by, wires_of

NOTHING = ("nothing",)
END = ("end",)
BIT = ("number", 0, 1)


def asking():
    return [
        ("left", [("ask", ("text", 9), 1), ("go", NOTHING, 2)]),
        ("right", [("yes", ("number", 0, 300), 0), ("no", NOTHING, 0), ("more", ("list", BIT, 3), 1)]),
        END,
    ]


ASK = ("left", "ask", "how")
MORE = ("right", "more", [1, 0])
YES = ("right", "yes", 258)
NO = ("right", "no", None)
GO = ("left", "go", None)
TALK = [ASK, MORE, YES, ASK, NO, GO]
LEFT = [0, 3, 104, 111, 119, 0, 3, 104, 111, 119, 1]
RIGHT = [2, 2, 1, 0, 0, 1, 2, 1]


def orders_of(ones, others):
    """All orders of so many pieces of the left and of the right side."""
    for places in itertools.combinations(range(ones + others), ones):
        yield ["left" if k in places else "right" for k in range(ones + others)]


class ReaderTest(unittest.TestCase):

    def broken(self, reader, side, piece, at, of):
        with self.assertRaises(Broken) as caught:
            reader.feed(side, piece)
        self.assertEqual((caught.exception.at, caught.exception.side), (at, of))
        self.assertIs(type(caught.exception.at), int)
        self.assertIsNone(caught.exception.__cause__)

    def stays_broken(self, reader, at, of):
        for side, piece in [
            ("left", []), ("right", []), ("right", [0]), ("left", [1, 1]), ("left", []), ("right", [255] * 9),
        ]:
            self.broken(reader, side, piece, at, of)
            self.assertEqual(type(reader.state()), int)
            self.assertEqual([type(number) for number in reader.unread()], [int, int])

    def follow(self, g, known, feeding):
        """Feeds all pieces and looks at each step at what point [12] reads from the wires put together."""
        reader, wires, told = Reader(g), {"left": [], "right": []}, []
        for side, piece in feeding:
            wires[side] = wires[side] + piece
            expected = known.read(wires["left"], wires["right"])
            if expected[0] == "broken":
                self.broken(reader, side, list(piece), expected[1], expected[2])
                continue
            now = reader.feed(side, list(piece))
            self.assertIs(type(now), list)
            told = told + now
            self.assertEqual(told, expected[1])
            self.assertEqual(reader.state(), expected[2])
            left, right = expected[3]
            self.assertEqual(reader.unread(), (len(wires["left"]) - left, len(wires["right"]) - right))
        return expected[0]

    def test_the_wires_of_the_talk(self):
        self.assertEqual(wires_of(asking(), TALK), (LEFT, RIGHT))

    def test_before_any_piece(self):
        for g in [asking(), [END], [("right", [("on", NOTHING, 0)])]]:
            reader = Reader(g)
            self.assertEqual(reader.state(), 0)
            self.assertEqual(reader.unread(), (0, 0))
            self.assertEqual(reader.feed("left", []), [])
            self.assertEqual(reader.feed("right", []), [])
            self.assertEqual((reader.state(), reader.unread()), (0, (0, 0)))

    def test_step_by_step(self):
        reader = Reader(asking())
        for side, piece, told, state, unread in [
            ("left", [0, 3], [], 0, (2, 0)),
            ("right", [2], [], 0, (2, 1)),
            ("left", [104, 111], [], 0, (4, 1)),
            ("left", [119], [ASK], 1, (0, 1)),
            ("right", [2, 1], [], 1, (0, 3)),
            ("left", [0, 3, 104, 111, 119, 1], [], 1, (6, 3)),
            ("right", [0], [MORE], 1, (6, 0)),
            ("right", [], [], 1, (6, 0)),
            ("right", [0, 1], [], 1, (6, 2)),
            ("right", [2, 1], [YES, ASK, NO, GO], 2, (0, 0)),
            ("right", [255], [], 2, (0, 1)),
            ("left", [77, 7], [], 2, (2, 1)),
            ("left", [], [], 2, (2, 1)),
        ]:
            self.assertEqual(reader.feed(side, piece), told)
            self.assertEqual(reader.state(), state)
            self.assertEqual(reader.unread(), unread)
            self.assertEqual((type(reader.state()), type(reader.unread())), (int, tuple))

    def test_byte_by_byte(self):
        for first, second in [(("left", LEFT), ("right", RIGHT)), (("right", RIGHT), ("left", LEFT))]:
            reader, told = Reader(asking()), []
            for side, wire in [first, second]:
                for byte in wire:
                    told.extend(reader.feed(side, [byte]))
            self.assertEqual(told, TALK)
            self.assertEqual((reader.state(), reader.unread()), (2, (0, 0)))

    def test_one_wire_whole_ahead_of_the_other(self):
        reader = Reader(asking())
        self.assertEqual(reader.feed("left", LEFT), [ASK])
        self.assertEqual((reader.state(), reader.unread()), (1, (6, 0)))
        self.assertEqual(reader.feed("right", RIGHT), TALK[1:])
        self.assertEqual((reader.state(), reader.unread()), (2, (0, 0)))
        reader = Reader(asking())
        self.assertEqual(reader.feed("right", RIGHT), [])
        self.assertEqual((reader.state(), reader.unread()), (0, (0, 8)))
        self.assertEqual(reader.feed("left", LEFT), TALK)
        self.assertEqual((reader.state(), reader.unread()), (2, (0, 0)))

    def test_every_order_of_pieces(self):
        for order in orders_of(5, 4):
            pieces = {
                "left": [LEFT[:1], LEFT[1:4], [], LEFT[4:8], LEFT[8:]],
                "right": [RIGHT[:3], RIGHT[3:4], RIGHT[4:7], RIGHT[7:]],
            }
            reader, told, wires = Reader(asking()), [], {"left": [], "right": []}
            for side in order:
                piece = pieces[side].pop(0)
                wires[side] += piece
                told.extend(reader.feed(side, piece))
                talk, state, places = talk_by(asking(), wires["left"], wires["right"])
                self.assertEqual((told, reader.state()), (talk, state))
                self.assertEqual(reader.unread(), (len(wires["left"]) - places[0], len(wires["right"]) - places[1]))
            self.assertEqual(told, TALK)

    def test_values_with_no_bytes(self):
        g = [
            ("left", [("a", NOTHING, 1), ("b", ("number", 4, 4), 0)]),
            ("right", [("c", ("pair", NOTHING, NOTHING), 0)]),
        ]
        reader = Reader(g)
        self.assertEqual(reader.feed("left", [1]), [("left", "b", 4)])
        self.assertEqual(reader.feed("left", [0, 1, 1]), [("left", "a", None)])
        self.assertEqual(reader.unread(), (2, 0))
        self.assertEqual(reader.feed("right", [0]), [("right", "c", (None, None)), ("left", "b", 4), ("left", "b", 4)])
        self.assertEqual(reader.unread(), (0, 0))

    def test_broken_at_once(self):
        reader = Reader(asking())
        self.broken(reader, "left", [2], 0, "left")
        self.stays_broken(reader, 0, "left")
        reader = Reader(asking())
        self.assertEqual(reader.feed("left", [0, 3, 97]), [])
        self.broken(reader, "left", [37], 3, "left")
        self.stays_broken(reader, 3, "left")

    def test_broken_from_the_wires_beginning(self):
        reader = Reader(asking())
        for _ in range(20):
            self.assertEqual(reader.feed("left", [0, 3, 104]), [])
            self.assertEqual(reader.feed("left", [111, 119]), [ASK])
            self.assertEqual(reader.feed("right", [0, 1, 2]), [YES])
        self.assertEqual(reader.feed("left", LEFT[:5]), [ASK])
        self.assertEqual(reader.feed("right", [2, 3, 1]), [])
        self.broken(reader, "right", [0, 2, 1], 60 + 4, "right")
        self.stays_broken(reader, 64, "right")

    def test_broken_though_messages_became_whole(self):
        reader = Reader(asking())
        self.assertEqual(reader.feed("right", [1, 9]), [])
        self.broken(reader, "left", LEFT[:5] + LEFT[:5], 1, "right")
        self.stays_broken(reader, 1, "right")
        reader = Reader(asking())
        self.assertEqual(reader.feed("right", [1, 1, 1]), [])
        self.broken(reader, "left", LEFT[:5] * 2 + [5], 10, "left")
        self.stays_broken(reader, 10, "left")

    def test_the_other_sides_bytes_break_later(self):
        reader = Reader(asking())
        self.assertEqual(reader.feed("right", [200, 1]), [])
        self.assertEqual(reader.feed("left", [0]), [])
        self.assertEqual((reader.state(), reader.unread()), (0, (1, 2)))
        self.broken(reader, "left", [0], 0, "right")
        self.stays_broken(reader, 0, "right")

    def test_behind_an_end_nothing_breaks(self):
        reader = Reader(asking())
        self.assertEqual(reader.feed("left", [1, 255]), [GO])
        for side, unread in [("left", (2, 0)), ("right", (2, 1)), ("left", (3, 1))]:
            self.assertEqual(reader.feed(side, [99]), [])
            self.assertEqual((reader.state(), reader.unread()), (2, unread))
        reader = Reader([END])
        self.assertEqual(reader.feed("right", [0, 1]), [])
        self.assertEqual((reader.state(), reader.unread()), (0, (0, 2)))

    def test_drawn_pieces(self):
        chance = chance_of(13)
        ends = {"talk": 0, "broken": 0}
        for _ in range(80):
            g = drawn_grammar(chance, chance.choice([1, 2, 4, 30]))
            known = KnownWires(g)
            for _ in range(10):
                left, right = expected_wires(g, drawn_talk(chance, g, chance.choice([1, 5, 20])))
                if chance.random() < 0.5:
                    left, right = damaged(chance, left), damaged(chance, right)
                for _ in range(3):
                    ends[self.follow(g, known, drawn_feeding(chance, left, right))] += 1
                self.follow(g, known, [("left", [byte]) for byte in left] + [("right", right)])
                self.follow(g, known, [("right", right)] + [("left", [byte]) for byte in left] + [("right", [])])
        self.assertGreater(min(ends.values()), 200)

    def test_a_long_talk_byte_by_byte(self):
        g, talk = asking(), [ASK, YES] * 999 + [ASK, NO]
        left, right = wires_of(g, talk)
        reader, told = Reader(g), []
        for byte in left:
            told.extend(reader.feed("left", [byte]))
        self.assertEqual(told, [ASK])
        for byte in right:
            told.extend(reader.feed("right", [byte]))
        self.assertEqual(told, talk)
        self.assertEqual((reader.state(), reader.unread()), (0, (0, 0)))

    def test_readers_are_their_own(self):
        g = asking()
        first, second = Reader(g), Reader(g)
        self.assertEqual(first.feed("left", LEFT), [ASK])
        self.assertEqual((second.state(), second.unread()), (0, (0, 0)))
        self.broken(first, "right", [3], 0, "right")
        self.assertEqual(second.feed("left", LEFT), [ASK])

    def test_a_piece_is_not_kept(self):
        reader, piece = Reader(asking()), [0, 3, 104]
        self.assertEqual(reader.feed("left", piece), [])
        self.assertEqual(piece, [0, 3, 104])
        piece[1] = 99
        piece.clear()
        ahead = [2, 2, 1]
        self.assertEqual(reader.feed("right", ahead), [])
        ahead.extend([5, 5])
        ahead[0] = 255
        self.assertEqual(reader.unread(), (3, 3))
        self.assertEqual(reader.feed("left", [111, 119]), [ASK])
        self.assertEqual(reader.feed("right", [0]), [MORE])
        # One list, fed again and again.
        reader, piece = Reader(asking()), [1]
        told = []
        for byte in LEFT[:5]:
            piece[0] = byte
            told.extend(reader.feed("left", piece))
        self.assertEqual(told, [ASK])

    def test_the_grammar_is_not_kept(self):
        g = asking()
        reader = Reader(g)
        g[0][1].clear()
        g[1][1].insert(0, ("new", NOTHING, 2))
        g[2] = g[0]
        g.pop()
        self.assertEqual(reader.feed("left", LEFT), [ASK])
        self.assertEqual(reader.feed("right", RIGHT), TALK[1:])
        self.assertEqual(reader.state(), 2)

    def test_what_is_handed_in_stays(self):
        g, left, right = asking(), list(LEFT), list(RIGHT)
        reader = Reader(g)
        reader.feed("left", left)
        reader.feed("right", right)
        bad = [0, 0, 9]
        other = Reader(g)
        other.feed("right", [1])
        self.broken(other, "left", bad, 2, "left")
        self.assertEqual((g, left, right, bad), (asking(), LEFT, RIGHT, [0, 0, 9]))

    def test_each_told_list_is_new(self):
        g = asking()
        one, two = Reader(g), Reader(g)
        told = []
        for reader in [one, two]:
            told.append(reader.feed("left", LEFT))
            told.append(reader.feed("right", [2, 2, 1]))
            told.append(reader.feed("right", [0, 2, 0, 2, 0]))
            told.append(reader.feed("left", []))
        lists = lists_in(told)
        self.assertEqual(len({id(part) for part in lists}), len(lists))
        for part in lists[1:]:
            part.append("more")
        self.assertEqual((one.state(), one.unread()), (1, (6, 0)))
        self.assertEqual(one.feed("right", [2, 1, 1]), [("right", "more", [1])])
        self.assertEqual(two.feed("right", [2, 0]), [("right", "more", [])])
        self.assertEqual(one.feed("right", [1]), [NO, ASK])


if __name__ == "__main__":
    unittest.main()
