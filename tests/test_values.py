"""Points [6] and [7], and point [3] as far as it speaks of values."""

import copy
import itertools
import unittest

from tests.expected import SIGNS, expected_bytes, lists_in, values_of
from tests.odd import odd_things
from wireparley.errors import Broken, NoValue, ParleyError, Short
from wireparley.shapes import fits, is_shape
from wireparley.values import read_value, value_bytes

NOTHING = ("nothing",)
BIT = ("number", 0, 1)
MOST = 999999999999999999

# Each row: a shape, a value that fits it, and the bytes by point [6].
ROWS = [
    (NOTHING, None, []),
    (("number", 5, 5), 5, []),
    (("number", -5, -5), -5, []),
    (("number", MOST, MOST), MOST, []),
    (("number", 0, 1), 1, [1]),
    (("number", 0, 255), 0, [0]),
    (("number", 0, 255), 255, [255]),
    (("number", -7, 248), -7, [0]),
    (("number", -7, 248), 0, [7]),
    (("number", -7, 248), 248, [255]),
    (("number", 1000, 1001), 1001, [1]),
    (("number", 0, 256), 0, [0, 0]),
    (("number", 0, 256), 255, [0, 255]),
    (("number", 0, 256), 256, [1, 0]),
    (("number", -128, 128), -128, [0, 0]),
    (("number", -128, 128), 128, [1, 0]),
    (("number", 0, 65535), 65535, [255, 255]),
    (("number", 0, 65535), 258, [1, 2]),
    (("number", 0, 65536), 65536, [1, 0, 0]),
    (("number", 0, 65536), 65535, [0, 255, 255]),
    (("number", 3, 65539), 5, [0, 0, 2]),
    (("number", 0, 16777215), 66051, [1, 2, 3]),
    (("number", 0, 16777216), 66051, [0, 1, 2, 3]),
    (("number", 0, MOST), 0, [0] * 8),
    (("number", 0, MOST), MOST, [13, 224, 182, 179, 167, 99, 255, 255]),
    (("number", -MOST, MOST), -MOST, [0] * 8),
    (("number", -MOST, MOST), 0, [13, 224, 182, 179, 167, 99, 255, 255]),
    (("number", -MOST, MOST), MOST, [27, 193, 109, 103, 78, 199, 255, 254]),
    (("text", 0), "", [0]),
    (("text", 5), "", [0]),
    (("text", 5), " ~", [2, 32, 126]),
    (("text", 5), "abcAZ", [5, 97, 98, 99, 65, 90]),
    (("text", 250), "\"" * 250, [250] + [34] * 250),
    (("text", 250), SIGNS, [len(SIGNS)] + [ord(sign) for sign in SIGNS]),
    (("list", BIT, 0), [], [0]),
    (("list", BIT, 5), [], [0]),
    (("list", BIT, 5), [1, 0, 1], [3, 1, 0, 1]),
    (("list", BIT, 250), [1] * 250, [250] + [1] * 250),
    (("list", NOTHING, 250), [None] * 250, [250]),
    (("list", ("number", 0, 300), 3), [258, 3], [2, 1, 2, 0, 3]),
    (("list", ("list", BIT, 2), 3), [[], [1], [0, 1]], [3, 0, 1, 1, 2, 0, 1]),
    (("pair", BIT, ("text", 3)), (1, "ab"), [1, 2, 97, 98]),
    (("pair", ("text", 3), BIT), ("ab", 1), [2, 97, 98, 1]),
    (("pair", NOTHING, NOTHING), (None, None), []),
    (("choice", (NOTHING,)), ("of", 0, None), [0]),
    (("choice", (NOTHING, BIT, ("text", 3))), ("of", 0, None), [0]),
    (("choice", (NOTHING, BIT, ("text", 3))), ("of", 1, 1), [1, 1]),
    (("choice", (NOTHING, BIT, ("text", 3))), ("of", 2, "x"), [2, 1, 120]),
    (("choice", (BIT,) * 9), ("of", 8, 0), [8, 0]),
    (
        ("list", ("pair", ("choice", (NOTHING, ("list", ("text", 2), 2))), ("number", -1, 300)), 3),
        [(("of", 1, ["a", ""]), 299), (("of", 0, None), -1)],
        [2, 1, 2, 1, 97, 0, 1, 44, 0, 0, 0],
    ),
]

# Shapes of few values, all of which can be written down.
FEW = [
    NOTHING,
    ("number", 7, 7),
    ("number", -2, 3),
    ("number", 0, 255),
    ("number", 10, 266),
    ("number", -5, 300),
    ("text", 0),
    ("text", 1),
    ("list", NOTHING, 0),
    ("list", NOTHING, 3),
    ("list", ("number", 4, 6), 3),
    ("list", ("number", 0, 258), 1),
    ("list", ("list", BIT, 2), 2),
    ("list", ("pair", NOTHING, ("number", 3, 3)), 4),
    ("pair", BIT, ("number", 0, 2)),
    ("pair", ("list", BIT, 2), ("list", ("number", 0, 2), 1)),
    ("pair", NOTHING, ("text", 1)),
    ("pair", ("text", 0), ("number", 0, 256)),
    ("choice", (NOTHING,)),
    ("choice", (BIT, NOTHING, ("text", 1), ("list", BIT, 1))),
    ("choice", (("choice", (NOTHING, BIT)), ("pair", BIT, BIT))),
    ("list", ("choice", (NOTHING, BIT)), 2),
]


class Known:
    """All rows of bytes of a shape of few values, and what is read by the words of point [7]."""

    def __init__(self, s):
        self.whole = {tuple(expected_bytes(s, value)): value for value in values_of(s)}
        self.begun = {row[:cut] for row in self.whole for cut in range(len(row) + 1)}

    def read(self, wire, at):
        for end in range(at, len(wire) + 1):
            row = tuple(wire[at:end])
            if row in self.whole:
                return ("value", self.whole[row], end)
            if row not in self.begun:
                return ("broken", end - 1, None)
        return ("short",)


def answer_of(s, wire, at):
    try:
        told = read_value(s, wire, at)
    except Short:
        return ("short",)
    except Broken as error:
        return ("broken", error.at, error.side)
    if not isinstance(told, tuple) or len(told) != 2:
        raise AssertionError("no tuple of a value and a place")
    return ("value", told[0], told[1])


class ValueBytesTest(unittest.TestCase):

    def test_rows(self):
        for s, value, row in ROWS:
            with self.subTest(shape=s):
                self.assertTrue(is_shape(s))
                self.assertEqual(value_bytes(s, value), row)

    def test_every_value_of_few(self):
        for s in FEW:
            with self.subTest(shape=s):
                for value in values_of(s):
                    self.assertTrue(fits(s, value))
                    self.assertEqual(value_bytes(s, value), expected_bytes(s, value))

    def test_widths_of_numbers(self):
        for low in [0, -1, -300, 77]:
            for bits in range(0, 57):
                for most in [2 ** bits - 1, 2 ** bits, 2 ** bits + 1]:
                    s = ("number", low, low + most)
                    for value in [low, low + most // 2, low + most]:
                        self.assertEqual(value_bytes(s, value), expected_bytes(s, value))

    def test_a_list_of_bytes_is_told(self):
        for s, value, _ in ROWS:
            row = value_bytes(s, value)
            self.assertIs(type(row), list)
            for byte in row:
                self.assertIs(type(byte), int)
                self.assertTrue(0 <= byte <= 255)

    def test_what_does_not_fit(self):
        for s, value in [
            (NOTHING, 0), (NOTHING, False), (("number", 0, 9), 10), (("number", 0, 9), -1), (("number", 0, 9), True),
            (("number", 0, 9), "1"), (("number", 5, 5), 6), (("number", 5, 5), None), (("text", 2), "abc"),
            (("text", 2), "%"), (("text", 2), "\t"), (("text", 2), None), (("text", 2), ["a"]), (("text", 0), "a"),
            (("list", BIT, 2), [0, 0, 0]), (("list", BIT, 2), [2]), (("list", BIT, 2), (0, 1)),
            (("list", BIT, 2), [0, False]), (("pair", BIT, BIT), (0,)), (("pair", BIT, BIT), (0, 0, 0)),
            (("pair", BIT, BIT), [0, 0]), (("pair", BIT, BIT), (0, 2)), (("choice", (BIT, NOTHING)), ("of", 2, 0)),
            (("choice", (BIT, NOTHING)), ("of", -1, None)), (("choice", (BIT, NOTHING)), ("of", True, None)),
            (("choice", (BIT, NOTHING)), ("of", 0, None)), (("choice", (BIT, NOTHING)), (0, 1)),
            (("list", NOTHING, 250), [None] * 251),
        ]:
            with self.subTest(shape=s, value=value):
                with self.assertRaises(NoValue):
                    value_bytes(s, value)

    def test_anything_is_refused(self):
        shapes = [
            NOTHING, BIT, ("text", 5), ("list", BIT, 250), ("pair", BIT, NOTHING), ("choice", (BIT, NOTHING)),
            ("list", ("list", BIT, 250), 250), ("pair", ("pair", BIT, BIT), NOTHING),
        ]
        for k, thing in enumerate(odd_things()):
            with self.subTest(k):
                for s in shapes:
                    for value in [thing, [thing], (thing, None), (0, thing), ("of", 0, thing), ("of", thing, None),
                                  (thing, 1, None)]:
                        with self.assertRaises(NoValue):
                            value_bytes(s, value)

    def test_the_value_stays(self):
        for s, value, row in ROWS:
            before = copy.deepcopy(value)
            self.assertEqual(value_bytes(s, value), row)
            self.assertEqual(value, before)

    def test_each_told_list_is_new(self):
        for s, value, row in ROWS:
            first = value_bytes(s, value)
            second = value_bytes(s, value)
            self.assertIsNot(first, second)
            first.append(1)
            first[0] = 77
            self.assertEqual(second, row)
            self.assertEqual(value_bytes(s, value), row)

    def test_no_value_is_kept(self):
        s = ("list", ("list", BIT, 3), 3)
        value = [[0], [1]]
        row = value_bytes(s, value)
        value[0].append(1)
        self.assertEqual(row, [2, 1, 0, 1, 1])
        self.assertEqual(value_bytes(s, value), [2, 2, 0, 1, 1, 1])
        value.append([2])
        with self.assertRaises(NoValue):
            value_bytes(s, value)

    def test_shapes_somewhat_beyond_the_bounds(self):
        for s, value in [
            (("text", 253), "x" * 253),
            (("list", BIT, 252), [1] * 252),
            (("choice", (BIT,) * 12), ("of", 11, 1)),
            (("number", 0, 10 ** 20), 10 ** 20),
            (("list", ("list", ("list", ("list", ("list", ("list", ("list", BIT, 1), 1), 1), 1), 1), 1), 1),
             [[[[[[[1]]]]]]]),
        ]:
            row = value_bytes(s, value)
            self.assertEqual(row, expected_bytes(s, value))
            self.assertEqual(read_value(s, row, 0), (value, len(row)))


class OneRowTest(unittest.TestCase):
    """Point [3]: each value has one row of bytes, and none begins another's."""

    def test_unlike_values_have_unlike_bytes(self):
        for s in FEW:
            with self.subTest(shape=s):
                rows = [tuple(value_bytes(s, value)) for value in values_of(s)]
                self.assertEqual(len(set(rows)), len(rows))

    def test_none_begins_another(self):
        for s in FEW:
            with self.subTest(shape=s):
                rows = {tuple(value_bytes(s, value)) for value in values_of(s)}
                for row in rows:
                    for cut in range(len(row)):
                        self.assertNotIn(row[:cut], rows)

    def test_what_was_written_is_read(self):
        for s in FEW:
            with self.subTest(shape=s):
                for value in values_of(s):
                    row = value_bytes(s, value)
                    self.assertEqual(read_value(s, row, 0), (value, len(row)))


class ReadValueTest(unittest.TestCase):

    def broken(self, s, wire, start, at):
        with self.assertRaises(Broken) as caught:
            read_value(s, wire, start)
        self.assertEqual(caught.exception.at, at)
        self.assertIs(type(caught.exception.at), int)
        self.assertIsNone(caught.exception.side)

    def short(self, s, wire, start):
        with self.assertRaises(Short):
            read_value(s, wire, start)

    def test_rows(self):
        for s, value, row in ROWS:
            with self.subTest(shape=s):
                self.assertEqual(answer_of(s, row, 0), ("value", value, len(row)))

    def test_kinds_of_what_is_read(self):
        for s, value, row in ROWS:
            with self.subTest(shape=s):
                told = read_value(s, row, 0)
                self.assertIs(type(told), tuple)
                self.assertIs(type(told[1]), int)
                self.assertTrue(fits(s, told[0]))
                self.assertEqual(repr(told[0]), repr(value))

    def test_behind_and_ahead_of_other_bytes(self):
        for s, value, row in ROWS:
            with self.subTest(shape=s):
                for ahead in [[], [0], [255, 255, 255], [3, 1, 0, 1]]:
                    for behind in [[], [0], [255], [37, 0, 9, 9]]:
                        wire = ahead + row + behind
                        told = answer_of(s, wire, len(ahead))
                        self.assertEqual(told, ("value", value, len(ahead) + len(row)))

    def test_short_at_each_cut(self):
        for s, _, row in ROWS:
            with self.subTest(shape=s):
                for ahead in [[], [250, 37], [0] * 9]:
                    for cut in range(len(row)):
                        self.short(s, ahead + row[:cut], len(ahead))

    def test_nothing_is_read_of_no_bytes(self):
        for s, value in [(NOTHING, None), (("number", 4, 4), 4), (("pair", NOTHING, ("number", 1, 1)), (None, 1))]:
            self.assertEqual(read_value(s, [], 0), (value, 0))
            self.assertEqual(read_value(s, [255, 255], 1), (value, 1))
            self.assertEqual(read_value(s, [255, 255], 2), (value, 2))
        for s in [BIT, ("text", 0), ("list", NOTHING, 0), ("choice", (NOTHING,)), ("pair", NOTHING, BIT)]:
            self.short(s, [], 0)
            self.short(s, [0, 0, 0], 3)

    def test_broken_numbers(self):
        self.broken(("number", 0, 9), [10], 0, 0)
        self.broken(("number", 0, 9), [0, 0, 10, 0], 2, 2)
        self.broken(("number", 0, 1), [255], 0, 0)
        self.broken(("number", 100, 109), [10], 0, 0)
        self.broken(("number", 0, 256), [2], 0, 0)
        self.broken(("number", 0, 256), [2, 0], 0, 0)
        self.broken(("number", 0, 256), [1, 1], 0, 1)
        self.broken(("number", 0, 256), [9, 1, 1], 1, 2)
        self.broken(("number", -128, 128), [1, 255], 0, 1)
        self.broken(("number", 0, 65536), [1, 0, 1], 0, 2)
        self.broken(("number", 0, 65536), [1, 1], 0, 1)
        self.broken(("number", 0, 65536), [2], 0, 0)
        self.broken(("number", 0, 66051), [1, 2, 4], 0, 2)
        self.broken(("number", 0, 66051), [1, 3], 0, 1)

    def test_numbers_at_their_last_byte(self):
        s = ("number", 0, 66051)
        self.short(s, [1], 0)
        self.short(s, [1, 2], 0)
        self.assertEqual(read_value(s, [1, 2, 3], 0), (66051, 3))
        self.assertEqual(read_value(s, [1, 1, 255], 0), (66047, 3))
        self.assertEqual(read_value(s, [0, 255, 255], 0), (65535, 3))
        self.short(s, [0, 255], 0)

    def test_broken_numbers_of_eighteen_figures(self):
        for s in [("number", 0, MOST), ("number", -MOST, MOST), ("number", -MOST, 0)]:
            last = expected_bytes(s, s[2])
            self.assertEqual(read_value(s, last, 0), (s[2], 8))
            for k in range(8):
                if last[k] < 255:
                    over = last[:k] + [last[k] + 1]
                    self.broken(s, over, 0, k)
                    self.broken(s, [7, 7, 7] + over + [0] * 9, 3, k + 3)
                if last[k] > 0:
                    self.short(s, (last[:k] + [last[k] - 1] + [255] * 8)[:7], 0)

    def test_broken_texts(self):
        self.broken(("text", 0), [1], 0, 0)
        self.broken(("text", 3), [4], 0, 0)
        self.broken(("text", 3), [9, 9, 255, 97], 2, 2)
        self.broken(("text", 250), [251], 0, 0)
        self.broken(("text", 3), [3, 31], 0, 1)
        self.broken(("text", 3), [3, 97, 127], 0, 2)
        self.broken(("text", 3), [3, 97, 37, 97], 0, 2)
        self.broken(("text", 3), [0, 0, 3, 97, 98, 10], 2, 5)
        self.broken(("text", 3), [1, 200, 0], 0, 1)

    def test_every_byte_as_a_sign(self):
        for byte in range(256):
            for wire, place in [([2, byte, 98], 1), ([2, 97, byte], 2)]:
                if 32 <= byte <= 126 and byte != 37:
                    text = "".join(chr(number) for number in wire[1:])
                    self.assertEqual(read_value(("text", 2), wire, 0), (text, 3))
                else:
                    self.broken(("text", 2), wire, 0, place)

    def test_broken_lists(self):
        self.broken(("list", BIT, 0), [1], 0, 0)
        self.broken(("list", BIT, 3), [4], 0, 0)
        self.broken(("list", NOTHING, 250), [251], 0, 0)
        self.broken(("list", BIT, 3), [3, 2], 0, 1)
        self.broken(("list", BIT, 3), [3, 1, 2], 0, 2)
        self.broken(("list", BIT, 3), [8, 8, 3, 1, 1, 2, 0], 2, 5)
        self.broken(("list", ("list", BIT, 1), 3), [3, 0, 2], 0, 2)
        self.broken(("list", ("number", 0, 256), 3), [3, 0, 0, 2], 0, 3)

    def test_broken_pairs_and_choices(self):
        self.broken(("pair", BIT, BIT), [2], 0, 0)
        self.broken(("pair", BIT, BIT), [1, 2], 0, 1)
        self.broken(("pair", NOTHING, BIT), [2], 0, 0)
        self.broken(("choice", (NOTHING,)), [1], 0, 0)
        self.broken(("choice", (BIT,) * 9), [9], 0, 0)
        self.broken(("choice", (BIT,) * 9), [255, 0], 0, 0)
        self.broken(("choice", (BIT, NOTHING, BIT)), [2, 2], 0, 1)
        self.broken(("choice", (BIT, NOTHING, BIT)), [6, 6, 6, 0, 9], 3, 4)
        self.assertEqual(read_value(("choice", (BIT, NOTHING, BIT)), [1, 9], 0), (("of", 1, None), 1))

    def test_every_wire_of_few(self):
        alphabet = [0, 1, 2, 3, 32, 37, 126, 127, 255]
        wires = [list(row) for length in range(5) for row in itertools.product(alphabet, repeat=length)]
        for s in FEW:
            known = Known(s)
            for wire in wires:
                expected = known.read(wire, 0)
                if answer_of(s, wire, 0) != expected:
                    self.assertEqual((s, wire, answer_of(s, wire, 0)), (s, wire, expected))

    def test_every_changed_byte(self):
        for s in FEW:
            known = Known(s)
            for value in values_of(s)[:40]:
                row = expected_bytes(s, value)
                for k in range(len(row)):
                    for byte in [0, 1, 2, 3, 4, 5, 6, 31, 32, 36, 37, 38, 126, 127, 254, 255]:
                        wire = [5, 5] + row[:k] + [byte] + row[k + 1:]
                        self.assertEqual(answer_of(s, wire, 2), known.read(wire, 2))

    def test_the_wire_stays(self):
        for s, _, row in ROWS:
            for wire in [row + [1, 2], row[:-1], [255] * 5]:
                before = list(wire)
                try:
                    read_value(s, wire, 0)
                except ParleyError:
                    pass
                self.assertEqual(wire, before)

    def test_each_told_list_is_new(self):
        for s, value, row in ROWS:
            wire = list(row)
            first = read_value(s, wire, 0)[0]
            second = read_value(s, wire, 0)[0]
            told = lists_in(first) + lists_in(second) + [wire]
            self.assertEqual(len({id(one) for one in told}), len(told))
            for one in lists_in(first):
                one.append("more")
            self.assertEqual(second, value)
            self.assertEqual(read_value(s, wire, 0), (value, len(row)))

    def test_the_wire_is_not_kept(self):
        s = ("list", BIT, 3)
        wire = [2, 0, 1]
        self.assertEqual(read_value(s, wire, 0), ([0, 1], 3))
        wire[1] = 1
        self.assertEqual(read_value(s, wire, 0), ([1, 1], 3))
        wire[1] = 2
        self.broken(s, wire, 0, 1)
        self.broken(s, wire, 0, 1)
        wire[:] = [2, 0]
        self.short(s, wire, 0)
        self.short(s, wire, 0)
        wire.append(0)
        self.assertEqual(read_value(s, wire, 0), ([0, 0], 3))


if __name__ == "__main__":
    unittest.main()
