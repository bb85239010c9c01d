"""Points [4] and [5]: which things are shapes, and which things fit them."""

import copy
import unittest

from tests.odd import deep_things, odd_things, plain_things
from wireparley.shapes import fits, is_shape

NOTHING = ("nothing",)
NUMBER = ("number", 0, 9)
TEXT = ("text", 5)
LIST = ("list", NUMBER, 3)
PAIR = ("pair", NUMBER, TEXT)
CHOICE = ("choice", (NOTHING, NUMBER, TEXT))
KINDS = [NOTHING, NUMBER, TEXT, LIST, PAIR, CHOICE]

MOST = 999999999999999999


def of_depth(depth, wrap):
    shape = NOTHING
    for _ in range(depth - 1):
        shape = wrap(shape)
    return shape


def choice_of(count, shape=NOTHING):
    return ("choice", (shape,) * count)


class IsShapeTest(unittest.TestCase):

    def shape(self, thing):
        if is_shape(thing) is not True:
            self.fail(f"not told as a shape: {thing!r}"[:300])

    def none(self, thing):
        if is_shape(thing) is not False:
            self.fail(f"not told as none: {thing!r}"[:300])

    def test_each_kind(self):
        for shape in KINDS:
            self.shape(shape)

    def test_kinds_within_kinds(self):
        for inner in KINDS:
            self.shape(("list", inner, 2))
            self.shape(("pair", inner, NOTHING))
            self.shape(("pair", NOTHING, inner))
            self.shape(("choice", (inner,)))
            self.shape(("choice", (NOTHING, inner)))

    def test_low_and_high(self):
        self.shape(("number", 5, 5))
        self.shape(("number", -5, -5))
        self.shape(("number", 0, 0))
        self.shape(("number", -5, -4))
        self.none(("number", 6, 5))
        self.none(("number", 1, -1))
        self.none(("number", -4, -5))

    def test_figures(self):
        self.shape(("number", MOST, MOST))
        self.shape(("number", -MOST, MOST))
        self.shape(("number", -MOST, -MOST))
        self.none(("number", 0, MOST + 1))
        self.none(("number", MOST + 1, MOST + 1))
        self.none(("number", -MOST - 1, 0))
        self.none(("number", -MOST - 1, -MOST - 1))
        self.none(("number", 0, 10 ** 5000))
        self.none(("number", -(10 ** 5000), 0))

    def test_most_of_texts_and_lists(self):
        for most in [0, 1, 249, 250]:
            self.shape(("text", most))
            self.shape(("list", NOTHING, most))
        for most in [-1, 251, 255, 256, 10 ** 30, None, "3", 3.0, (3,)]:
            self.none(("text", most))
            self.none(("list", NOTHING, most))

    def test_counts_of_choices(self):
        self.none(("choice", ()))
        for count in range(1, 10):
            self.shape(choice_of(count))
        for count in [10, 11, 60, 5000]:
            self.none(choice_of(count))

    def test_depth(self):
        wraps = [
            lambda s: ("list", s, 2),
            lambda s: ("pair", s, NOTHING),
            lambda s: ("pair", NOTHING, s),
            lambda s: ("choice", (s,)),
            lambda s: ("choice", (NOTHING, s, NOTHING)),
        ]
        for wrap in wraps:
            for depth in range(1, 7):
                self.shape(of_depth(depth, wrap))
            for depth in [7, 8, 100]:
                self.none(of_depth(depth, wrap))

    def test_depth_is_that_of_the_deepest(self):
        deep = of_depth(5, lambda s: ("list", s, 0))
        self.shape(("choice", (NOTHING, deep, NUMBER)))
        deeper = of_depth(6, lambda s: ("list", s, 0))
        self.none(("choice", (NOTHING, deeper, NUMBER)))
        self.none(("pair", NOTHING, deeper))
        self.none(("pair", deeper, NOTHING))

    def test_sixty_shapes(self):
        tens = (choice_of(9),) * 5
        self.shape(("choice", tens + (choice_of(8),)))
        self.none(("choice", tens + (choice_of(9),)))
        self.none(("choice", tens + (choice_of(8), NOTHING)))

    def test_sixty_shapes_of_several_depths(self):
        full = of_depth(5, lambda s: ("pair", s, s))
        self.shape(full)
        self.none(("pair", full, full))
        twenty_eight = ("choice", (choice_of(8), choice_of(8), choice_of(8)))
        self.shape(("pair", full, twenty_eight))
        twenty_nine = ("choice", (choice_of(8), choice_of(8), choice_of(9)))
        self.none(("pair", full, twenty_nine))
        self.none(("pair", twenty_nine, full))

    def test_sixty_one_at_the_last_depth(self):
        self.shape(sixty_and(0))
        self.none(sixty_and(1))

    def test_alike_shapes_count_each_time(self):
        self.none(of_depth(6, lambda s: ("choice", (s,) * 9)))
        self.none(of_depth(6, lambda s: ("pair", s, s)))
        self.none(of_depth(3, lambda s: ("choice", (s,) * 9)))

    def test_truths_are_no_numbers(self):
        for shape in [
            ("number", False, True), ("number", 0, True), ("number", False, 1), ("number", True, 1),
            ("number", False, False), ("number", -1, False), ("text", True), ("text", False),
            ("list", NOTHING, True), ("list", NOTHING, False),
        ]:
            self.none(shape)

    def test_other_numbers(self):
        for shape in [
            ("number", 0.0, 1), ("number", 0, 1.0), ("number", "0", "9"), ("number", None, None),
            ("number", 0, None), ("number", None, 0), ("number", (0,), 9),
        ]:
            self.none(shape)

    def test_lists_are_no_tuples(self):
        for thing in [
            ["nothing"], ["number", 0, 9], ["text", 5], ["list", NOTHING, 3], ["pair", NOTHING, NOTHING],
            ["choice", (NOTHING,)], ("choice", [NOTHING]), ("list", ["nothing"], 3),
            ("pair", ["nothing"], NOTHING), ("pair", NOTHING, ["nothing"]), ("choice", (["nothing"],)),
            ("choice", (NOTHING, ["nothing"])),
        ]:
            self.none(thing)

    def test_wrong_lengths(self):
        for thing in [
            (), ("nothing", None), ("nothing", ()), ("number",), ("number", 1), ("number", 1, 2, 3), ("text",),
            ("text", 1, 2), ("list",), ("list", NOTHING), ("list", NOTHING, 1, 1), ("pair",), ("pair", NOTHING),
            ("pair", NOTHING, NOTHING, NOTHING), ("choice",), ("choice", NOTHING), ("choice", (NOTHING,), 1),
            ("choice", NOTHING, NOTHING),
        ]:
            self.none(thing)

    def test_wrong_names_and_places(self):
        for thing in [
            "nothing", ("Nothing",), ("none",), ("",), (None,), (0,), (NOTHING,), ("end",), ("list", 3, NOTHING),
            ("number", 0, NUMBER), ("pair", 1, 2), ("pair", NOTHING, None), ("pair", None, NOTHING),
            ("list", None, 3), ("list", "nothing", 3), ("choice", (None,)), ("choice", ("nothing",)),
            ("choice", (NOTHING, 3)), ("choice", None), ("of", 0, None), ("texts", 3), ("string", 3),
        ]:
            self.none(thing)

    def test_of_anything(self):
        for k, thing in enumerate(odd_things() + [None, True, 0, 1, "", "text", [], ()]):
            with self.subTest(k):
                self.assertIs(is_shape(thing), False)

    def test_anything_within(self):
        for k, thing in enumerate(odd_things() + [None, True, 0, 1, "", "some", [], ()]):
            with self.subTest(k):
                for around in [
                    ("list", thing, 3), ("pair", thing, NOTHING), ("pair", NOTHING, thing), ("choice", (thing,)),
                    ("choice", (NOTHING, thing)), (thing,), (thing, 0, 9), (thing, 5), (thing, (NOTHING,)),
                ]:
                    self.assertIs(is_shape(around), False)

    def test_anything_as_a_number(self):
        wrong = plain_things() + deep_things() + [None, True, "", "7", [], ()]
        for k, thing in enumerate(wrong):
            with self.subTest(k):
                for shape in [("number", thing, 9), ("number", 0, thing), ("text", thing), ("list", NOTHING, thing)]:
                    self.assertIs(is_shape(shape), False)
                self.assertIs(is_shape(("choice", thing)), False)

    def test_asked_again(self):
        for shape in KINDS:
            before = copy.deepcopy(shape)
            self.assertEqual([is_shape(shape) for _ in range(3)], [True] * 3)
            self.assertEqual(shape, before)
        self.assertEqual([is_shape(("text", 251)) for _ in range(3)], [False] * 3)

    def test_what_is_handed_in_is_not_kept(self):
        held = [1]
        thing = ("text", held)
        self.assertIs(is_shape(thing), False)
        self.assertEqual(held, [1])
        self.assertIs(is_shape(("text", 1)), True)


def sixty_and(more):
    """A shape of depth 6 with sixty shapes, and so many more at the last depth."""
    rows = (choice_of(9),) * 5 + (choice_of(2 + more), NOTHING, NOTHING)
    return ("pair", NOTHING, ("list", ("list", ("choice", rows), 1), 1))


class FitsTest(unittest.TestCase):

    def fit(self, shape, thing):
        if fits(shape, thing) is not True:
            self.fail(f"not told to fit: {shape!r} {thing!r}"[:300])

    def unfit(self, shape, thing):
        if fits(shape, thing) is not False:
            self.fail(f"told to fit: {shape!r} {thing!r}"[:300])

    def test_nothing(self):
        self.fit(NOTHING, None)
        for thing in [0, False, "", "nothing", [], (), NOTHING, "-", {}]:
            self.unfit(NOTHING, thing)

    def test_numbers(self):
        for low, high in [(0, 9), (-3, 3), (5, 5), (-MOST, MOST), (-9, -4), (0, 0), (1, 1)]:
            shape = ("number", low, high)
            self.fit(shape, low)
            self.fit(shape, high)
            self.fit(shape, (low + high) // 2)
            self.unfit(shape, low - 1)
            self.unfit(shape, high + 1)
            self.unfit(shape, 10 ** 5000)
            self.unfit(shape, -(10 ** 5000))

    def test_numbers_are_no_other_things(self):
        for thing in [True, False, 0.0, 1.0, "1", None, [1], (1,), 1j, b"1", {1: 1}]:
            self.unfit(("number", -5, 5), thing)

    def test_text_lengths(self):
        for most in [0, 1, 2, 249, 250]:
            shape = ("text", most)
            self.fit(shape, "")
            self.fit(shape, "x" * most)
            self.unfit(shape, "x" * (most + 1))
            self.unfit(shape, "x" * (most + 5000))

    def test_text_signs(self):
        for number in range(0, 1200):
            sign = chr(number)
            right = 32 <= number <= 126 and sign != "%"
            for text in [sign, "ab" + sign, sign + "ab", "a" + sign + "b"]:
                self.assertIs(fits(("text", 9), text), right, repr(text))

    def test_text_edges(self):
        self.fit(("text", 5), " ~ ~ ")
        self.fit(("text", 9), "\"'\\{}#$&")
        for text in ["%", "a%", "%%", "\t", "a\tb", "\n", "ab\n", "\r", "\x7f", "\x1f", "\u00a0", "\u00e9", "\u0661",
                     "\ud800", "\U0001f600", "\x00"]:
            self.unfit(("text", 9), text)

    def test_texts_are_no_other_things(self):
        for thing in [None, 0, True, b"ab", ["a"], ("a",), bytearray(b"a"), {"a": 1}, []]:
            self.unfit(("text", 9), thing)

    def test_list_lengths(self):
        for most in [0, 1, 2, 249, 250]:
            shape = ("list", NUMBER, most)
            self.fit(shape, [])
            self.fit(shape, [7] * most)
            self.unfit(shape, [7] * (most + 1))
            self.unfit(shape, [7] * (most + 500))

    def test_list_things(self):
        self.fit(LIST, [0, 9, 5])
        for thing in [[0, 10], [10, 0], [0, 10, 0], [-1], [True], [None], ["1"], [[1]], [1.0], [0, 0, False]]:
            self.unfit(LIST, thing)

    def test_lists_are_no_other_things(self):
        for thing in [(), (1, 2), None, 0, "", "12", {}, {1: 2}, {1, 2}, range(2), iter([1]), b"\x01"]:
            self.unfit(LIST, thing)

    def test_an_empty_list_is_looked_at_no_further(self):
        self.fit(("list", ("choice", (NUMBER,)), 0), [])
        self.unfit(("list", ("choice", (NUMBER,)), 0), [("of", 0, 1)])

    def test_pairs(self):
        self.fit(PAIR, (3, "abc"))
        self.fit(("pair", NOTHING, NOTHING), (None, None))
        for thing in [
            (), (3,), (3, "abc", None), (3, "abc", "abc"), ("abc", 3), (10, "abc"), (3, "abcdef"), (3, None),
            (None, "abc"), [3, "abc"], "3a", {3: "abc"}, None, 3, (True, "abc"), ((3, "abc"),),
        ]:
            self.unfit(PAIR, thing)

    def test_choices(self):
        self.fit(CHOICE, ("of", 0, None))
        self.fit(CHOICE, ("of", 1, 9))
        self.fit(CHOICE, ("of", 2, "abcde"))
        for thing in [
            ("of", -1, "abc"), ("of", 3, "abc"), ("of", 3, None), ("of", -3, None), ("of", True, 5),
            ("of", False, None), ("of", 1.0, 5), ("of", "1", 5), ("of", None, None), ("of", 0, 5), ("of", 1, None),
            ("of", 1, 10), ("of", 2, 5), ("of", 10 ** 30, 5), ("Of", 0, None), ("on", 0, None), ("", 0, None),
            (None, 0, None), (0, None), ("of", 0), ("of", 0, None, None), ("of",), (), ["of", 0, None], None, 5, "abc",
            ("of", (1,), 5), ("of", [1], 5), ("choice", 0, None), (1, 0, None), ("of", 1, True),
        ]:
            self.unfit(CHOICE, thing)

    def test_choice_of_one_and_of_nine(self):
        one = ("choice", (NUMBER,))
        self.fit(one, ("of", 0, 3))
        self.unfit(one, ("of", 1, 3))
        self.unfit(one, ("of", -1, 3))
        self.unfit(one, 3)
        nine = ("choice", tuple(("number", k, k) for k in range(9)))
        for k in range(9):
            self.fit(nine, ("of", k, k))
            self.unfit(nine, ("of", k, k + 1))
        self.unfit(nine, ("of", 9, 8))

    def test_within_one_another(self):
        shape = ("list", ("pair", CHOICE, ("list", PAIR, 2)), 2)
        self.fit(shape, [])
        self.fit(shape, [(("of", 0, None), [])])
        self.fit(shape, [(("of", 2, ""), [(0, ""), (9, "~")]), (("of", 1, 4), [(1, "x")])])
        self.unfit(shape, [(("of", 2, ""), [(0, ""), (9, "%")])])
        self.unfit(shape, [(("of", 2, ""), [(0, ""), (9, ""), (9, "")])])
        self.unfit(shape, [(("of", 1, ""), [])])
        self.unfit(shape, [(("of", 1, 1), None)])

    def test_more_than_two_hundred_values(self):
        shape = ("list", ("list", NUMBER, 250), 250)
        value = [[k % 10 for k in range(250)] for _ in range(40)]
        self.fit(shape, value)
        value[39][249] = 10
        self.unfit(shape, value)
        value[39][249] = 0
        value[39].append(0)
        self.unfit(shape, value)

    def test_shapes_somewhat_beyond_the_bounds(self):
        deep = of_depth(9, lambda s: ("list", s, 1))
        self.fit(deep, [[[[[[[[None]]]]]]]])
        self.unfit(deep, [[[[[[[[0]]]]]]]])
        self.fit(("text", 253), "x" * 253)
        self.unfit(("text", 253), "x" * 254)
        self.fit(("number", 0, 10 ** 20), 10 ** 20)
        self.fit(choice_of(12), ("of", 11, None))
        self.unfit(choice_of(12), ("of", 12, None))

    def test_of_anything(self):
        for k, thing in enumerate(odd_things()):
            with self.subTest(k):
                for shape in KINDS:
                    self.assertIs(fits(shape, thing), False)

    def test_anything_within(self):
        shapes = KINDS + [("list", LIST, 3), ("pair", PAIR, PAIR), ("choice", (CHOICE, PAIR))]
        for k, thing in enumerate(odd_things()):
            with self.subTest(k):
                for around in [
                    [thing], [3, thing], (thing, "a"), (3, thing), ("of", 0, thing), ("of", 1, thing),
                    ("of", 2, thing), ("of", thing, None), (thing, 0, None), ("of", 1, (3, thing)),
                ]:
                    for shape in shapes:
                        self.assertIs(fits(shape, around), False)

    def test_what_is_handed_in_stays(self):
        shape = ("list", PAIR, 3)
        value = [(1, "a"), (2, "b")]
        self.fit(shape, value)
        self.assertEqual(value, [(1, "a"), (2, "b")])
        value.append((3, "toolong"))
        self.unfit(shape, value)
        self.unfit(shape, value)
        value.pop()
        self.fit(shape, value)
        self.assertEqual(value, [(1, "a"), (2, "b")])


if __name__ == "__main__":
    unittest.main()
