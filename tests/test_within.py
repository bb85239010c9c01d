"""Point [18]: shapes within shapes, and values by which shapes part."""

import copy
import itertools
import unittest

from tests.drawn import SHAPES, chance_of
from tests.expected import expected_bytes, lists_in, values_of
from wireparley.errors import NoValue
from wireparley.shapes import fits, is_shape
from wireparley.values import value_bytes
from wireparley.within import is_within, parting

NOTHING = ("nothing",)
BIT = ("number", 0, 1)
MOST = 999999999999999999

# A shape of each form, none of them within another.
FORMS = [
    NOTHING, ("number", 0, 9), ("text", 5), ("list", ("number", 0, 9), 3), ("pair", ("number", 0, 9), ("text", 5)),
    ("choice", (NOTHING, ("number", 0, 9), ("text", 5))),
]

# (s, r): s is within r.
WITHIN = [
    (("number", 0, 1), ("number", 0, 255)), (("number", 0, 255), ("number", 0, 255)),
    (("number", 0, 256), ("number", 0, 65535)), (("number", -5, -5), ("number", -5, -5)),
    (("number", -300, -44), ("number", -300, 1000)), (("number", -3, 5), ("number", -3, 252)),
    (("number", -MOST, MOST - 1), ("number", -MOST, MOST)), (("number", MOST, MOST), ("number", MOST, MOST)),
    (("text", 0), ("text", 0)), (("text", 0), ("text", 250)), (("text", 249), ("text", 250)),
    (("list", BIT, 0), ("list", ("text", 3), 0)), (("list", BIT, 0), ("list", NOTHING, 250)),
    (("list", ("number", 0, 9), 2), ("list", ("number", 0, 10), 2)), (("list", BIT, 2), ("list", BIT, 3)),
    (("list", ("list", ("text", 9), 0), 2), ("list", ("list", NOTHING, 0), 2)),
    (("pair", BIT, ("text", 2)), ("pair", ("number", 0, 2), ("text", 3))),
    (("choice", (NOTHING,)), ("choice", (NOTHING,))), (("choice", (BIT,)), ("choice", (("number", 0, 3), NOTHING))),
    (("choice", (NOTHING, BIT)), ("choice", (NOTHING, ("number", 0, 3), ("text", 3)))),
    (("choice", (NOTHING,) * 9), ("choice", (NOTHING,) * 9)),
]

# (s, r): s is not within r.
PARTED = [
    # Other lows.
    (("number", 0, 1), ("number", 1, 1)), (("number", 1, 2), ("number", 0, 9)), (("number", 0, 0), ("number", 1, 1)),
    (("number", -1, 9), ("number", 0, 9)), (("number", 5, 9), ("number", 0, 9)), (("number", -9, 0), ("number", 9, 9)),
    (("number", 5, 5), ("number", 4, 4)), (("number", 3, 3), ("number", 2, 200)),
    (("number", 1, 300), ("number", 0, 300)),
    # Another number of bytes.
    (("number", 0, 0), ("number", 0, 1)), (("number", 0, 1), ("number", 0, 256)),
    (("number", 0, 255), ("number", 0, 256)), (("number", 0, 65535), ("number", 0, 65536)),
    (("number", 7, 7), ("number", 7, 8)), (("number", 0, 9), ("number", 0, MOST)),
    (("number", -MOST, -MOST), ("number", -MOST, MOST)), (("number", 0, 256), ("number", 0, 255)),
    # Highs above.
    (("number", 0, 2), ("number", 0, 1)), (("number", 0, 255), ("number", 0, 254)),
    (("number", 5, 6), ("number", 5, 5)),
    (("number", -MOST, MOST), ("number", -MOST, MOST - 1)), (("number", 0, 65535), ("number", 0, 256)),
    # Texts.
    (("text", 1), ("text", 0)), (("text", 250), ("text", 249)), (("text", 250), ("text", 0)),
    # Lists.
    (("list", BIT, 3), ("list", BIT, 2)), (("list", BIT, 1), ("list", BIT, 0)),
    (("list", BIT, 1), ("list", NOTHING, 1)),
    (("list", ("number", 0, 2), 1), ("list", BIT, 250)), (("list", BIT, 5), ("list", NOTHING, 4)),
    (("list", NOTHING, 1), ("list", ("text", 0), 0)), (("list", ("text", 1), 1), ("list", ("text", 0), 0)),
    (("list", ("list", BIT, 2), 2), ("list", ("list", BIT, 1), 2)),
    # Pairs.
    (("pair", BIT, BIT), ("pair", NOTHING, BIT)), (("pair", BIT, BIT), ("pair", BIT, NOTHING)),
    (("pair", ("text", 2), BIT), ("pair", ("text", 1), BIT)), (("pair", BIT, ("text", 2)), ("pair", BIT, ("text", 1))),
    (("pair", BIT, NOTHING), ("pair", NOTHING, BIT)),
    # Choices.
    (("choice", (NOTHING, NOTHING)), ("choice", (NOTHING,))), (("choice", (BIT,) * 9), ("choice", (BIT,) * 8)),
    (("choice", (BIT,)), ("choice", (NOTHING, BIT))), (("choice", (NOTHING, BIT)), ("choice", (BIT, NOTHING))),
    (("choice", (NOTHING, BIT)), ("choice", (NOTHING, ("number", 0, 256)))),
    (("choice", (NOTHING, ("number", 0, 2))), ("choice", (NOTHING, BIT, BIT))),
    (("choice", (NOTHING, BIT, BIT)), ("choice", (NOTHING, BIT))),
]


def few(depth):
    """Shapes of few values, of at most that depth, near to one another."""
    shapes = [NOTHING, BIT, ("number", 0, 0), ("number", 0, 2), ("number", 1, 2), ("number", 1, 1), ("text", 0),
              ("text", 1)]
    if depth == 1:
        return shapes
    inner = few(depth - 1)[:6]
    shapes += [("list", s, most) for s in inner for most in [0, 1, 2]]
    shapes += [("pair", s, r) for s, r in itertools.product(inner[:4], repeat=2)]
    shapes += [("choice", row) for count in [1, 2] for row in itertools.product(inner[:3], repeat=count)]
    return shapes


def counted(value):
    """How many values there are in all in a value."""
    if isinstance(value, list):
        return 1 + sum(counted(thing) for thing in value)
    if isinstance(value, tuple):
        return 1 + sum(counted(thing) for thing in (value if len(value) == 2 else value[2:]))
    return 1


class WithinTest(unittest.TestCase):

    def within(self, s, r):
        self.assertTrue(is_shape(s) and is_shape(r), (s, r))
        self.assertIs(is_within(s, r), True, (s, r))
        with self.assertRaises(NoValue):
            parting(s, r)

    def parted(self, s, r):
        self.assertTrue(is_shape(s) and is_shape(r), (s, r))
        self.assertIs(is_within(s, r), False, (s, r))
        value = parting(s, r)
        self.assertIs(fits(s, value), True, (s, r, value))
        if fits(r, value):
            self.assertNotEqual(expected_bytes(s, value), expected_bytes(r, value), (s, r, value))
            self.assertNotEqual(value_bytes(s, value), value_bytes(r, value))
        return value

    def test_each_form_beside_each(self):
        for s, r in itertools.product(FORMS, repeat=2):
            with self.subTest(s=s, r=r):
                (self.within if s == r else self.parted)(s, r)

    def test_within(self):
        for s, r in WITHIN:
            with self.subTest(s=s, r=r):
                self.within(s, r)

    def test_parted(self):
        for s, r in PARTED:
            with self.subTest(s=s, r=r):
                self.parted(s, r)

    def test_the_same_within_other_forms(self):
        wraps = [
            lambda x: ("list", x, 2), lambda x: ("pair", x, BIT), lambda x: ("pair", ("text", 4), x),
            lambda x: ("choice", (x,)), lambda x: ("choice", (NOTHING, x, BIT)),
        ]
        for wrap in wraps:
            for s, r in WITHIN:
                self.within(wrap(s), wrap(r))
            for s, r in PARTED:
                self.parted(wrap(s), wrap(r))

    def test_a_shape_is_within_itself(self):
        for s in FORMS + SHAPES + few(2) + [pair[0] for pair in WITHIN + PARTED]:
            self.within(s, s)

    def test_numbers(self):
        """Same low, as many bytes, high not above: each told from the others."""
        edges = [-256, -255, -1, 0, 1, 2, 254, 255, 256, 257, 65535, 65536]
        shapes = [("number", low, high) for low in edges for high in edges if low <= high]
        for s, r in itertools.product(shapes, repeat=2):
            same = len(expected_bytes(s, s[1])) == len(expected_bytes(r, r[1]))
            if s[1] == r[1] and same and s[2] <= r[2]:
                self.within(s, r)
            else:
                self.parted(s, r)

    def test_lengths(self):
        for most, other in itertools.product([0, 1, 2, 5, 249, 250], repeat=2):
            for shape in [lambda n: ("text", n), lambda n: ("list", NOTHING, n), lambda n: ("list", ("text", 3), n)]:
                (self.within if most <= other else self.parted)(shape(most), shape(other))

    def test_empty_lists_whatever_the_things(self):
        for s, r in itertools.product(FORMS, repeat=2):
            for most in [0, 1, 250]:
                self.within(("list", s, 0), ("list", r, most))
            if s != r:
                self.parted(("list", s, 1), ("list", r, 250))

    def test_choices(self):
        parts = (NOTHING, ("text", 1), BIT, ("list", BIT, 2), ("pair", BIT, BIT), NOTHING, BIT, ("text", 3), NOTHING)
        for count, other in itertools.product(range(1, 10), repeat=2):
            s, r = ("choice", parts[:count]), ("choice", parts[:other])
            (self.within if count <= other else self.parted)(s, r)
        for k in range(9):
            for near, far in [(("number", 0, 3), ("text", 9)), (("text", 9), NOTHING)]:
                s, r = list(parts), list(parts)
                s[k], r[k] = near, far
                value = self.parted(("choice", tuple(s)), ("choice", tuple(r)))
                self.assertEqual(value[:2], ("of", k))

    def test_every_value(self):
        """Within just where each value that fits s fits r, and has the same bytes by both."""
        shapes = few(2)
        rows = [{repr(value): expected_bytes(s, value) for value in values_of(s)} for s in shapes]
        seen = 0
        for (s, mine), (r, theirs) in itertools.product(zip(shapes, rows), repeat=2):
            expected = all(theirs.get(value) == row for value, row in mine.items())
            self.assertIs(is_within(s, r), expected, (s, r))
            (self.within if expected else self.parted)(s, r)
            seen += expected and s != r
        self.assertGreater(seen, 50)

    def test_each_value_within_has_the_same_bytes(self):
        for s, r in itertools.product(SHAPES, repeat=2):
            if is_within(s, r):
                for value in values_of(s):
                    self.assertTrue(fits(r, value))
                    self.assertEqual(value_bytes(s, value), value_bytes(r, value))

    def test_deep_within(self):
        wraps = [lambda x: ("list", x, 3), lambda x: ("pair", BIT, x), lambda x: ("pair", x, ("text", 2)),
                 lambda x: ("choice", (NOTHING, x)), lambda x: ("choice", (("text", 2), BIT, x))]
        chance = chance_of(18)
        for _ in range(400):
            s, r = chance.choice(PARTED + WITHIN)
            parted = (s, r) in PARTED
            for _ in range(6 - max(depth_of(s), depth_of(r))):
                wrap = chance.choice(wraps)
                s, r = wrap(s), wrap(r)
            self.assertEqual(max(depth_of(s), depth_of(r)), 6)
            (self.parted if parted else self.within)(s, r)

    def test_an_empty_list_hides_what_is_deep_within(self):
        s, r = ("pair", ("list", ("list", ("text", 5), 2), 0), BIT), ("pair", ("list", NOTHING, 4), BIT)
        self.within(s, r)
        self.parted(("pair", ("list", s, 1), BIT), ("pair", ("list", NOTHING, 1), BIT))

    def test_where_both_parts_part(self):
        for s, r in itertools.product(PARTED, repeat=2):
            self.parted(("pair", s[0], r[0]), ("pair", s[1], r[1]))
            self.parted(("choice", (s[0], r[0])), ("choice", (s[1], r[1])))

    def test_a_half_that_makes_up_for_the_other(self):
        """By both shapes some values have the same bytes, though both their halves have other ones."""
        none, one, two = ("number", 0, 0), ("number", 0, 9), ("number", 0, 300)
        self.assertEqual(expected_bytes(("pair", none, one), (0, 0)), expected_bytes(("pair", one, none), (0, 0)))
        for wide, narrow in [(one, none), (two, one), (two, none), (("number", -3, 9), ("number", -3, -3))]:
            for s, r in [
                (("pair", narrow, wide), ("pair", wide, narrow)), (("pair", wide, narrow), ("pair", narrow, wide)),
                (("pair", ("pair", narrow, NOTHING), wide), ("pair", ("pair", wide, NOTHING), narrow)),
                (("pair", narrow, ("choice", (wide, NOTHING))), ("pair", wide, ("choice", (narrow, NOTHING)))),
                (("pair", narrow, ("pair", NOTHING, wide)), ("pair", wide, ("pair", NOTHING, narrow))),
            ]:
                self.parted(s, r)
                self.parted(("list", s, 3), ("list", r, 3))
                self.parted(("choice", (s,)), ("choice", (r,)))
                self.parted(("pair", s, r), ("pair", r, s))

    def test_drawn(self):
        chance = chance_of(180)
        for _ in range(3000):
            s, r = drawn_shape(chance, 5), drawn_shape(chance, 5)
            r = near_shape(chance, s) if chance.random() < 0.8 else r
            (self.within if by_forms(s, r) else self.parted)(s, r)

    def test_the_value_is_no_larger_than_it_must_be(self):
        """Where a parting value of few values is there, the told one has not more than two hundred."""
        wide, deep = ("pair", NOTHING, ("pair", NOTHING, NOTHING)), ("number", 0, 9)
        for s, r in [
            # The list is too long by its most, but a list of one thing parts as well.
            (("list", ("number", 0, 9), 250), ("list", ("number", 0, 8), 249)),
            (("pair", ("list", NOTHING, 250), deep), ("pair", ("list", NOTHING, 249), NOTHING)),
            (("pair", deep, ("list", NOTHING, 250)), ("pair", NOTHING, ("list", NOTHING, 249))),
            (("choice", (("list", NOTHING, 250), deep)), ("choice", (("list", NOTHING, 249), NOTHING))),
            (("choice", (("list", NOTHING, 250), deep)), ("choice", (("list", NOTHING, 249),))),
            (("list", ("list", wide, 40), 199), ("list", ("list", wide, 39), 198)),
            (("list", ("list", NOTHING, 150), 150), ("list", ("list", NOTHING, 149), 149)),
            # A thing of a choice is taken by the shape with the fewest values.
            (("list", ("choice", (wide, NOTHING)), 66), ("list", ("choice", (wide, NOTHING)), 65)),
            (("list", NOTHING, 199), ("list", NOTHING, 198)),
        ]:
            with self.subTest(s=s, r=r):
                self.assertLessEqual(counted(self.parted(s, r)), 200)

    def test_values_of_more_than_two_hundred(self):
        """Not promised; but what is told parts all the same."""
        self.parted(("list", NOTHING, 250), ("list", NOTHING, 249))
        self.parted(("list", ("pair", ("list", BIT, 3), BIT), 250), ("list", ("pair", ("list", BIT, 3), BIT), 249))


class AskedTest(unittest.TestCase):
    """Point [2]."""

    def test_the_same_is_told_again(self):
        for s, r in PARTED + WITHIN:
            kept = copy.deepcopy((s, r))
            self.assertEqual([is_within(s, r), is_within(s, r)], [(s, r) in WITHIN] * 2)
            if (s, r) in PARTED:
                self.assertEqual(parting(s, r), parting(s, r))
            self.assertEqual((s, r), kept)

    def test_each_told_list_is_new(self):
        lists = ("list", ("list", BIT, 2), 4)
        for s, r in [
            (lists, ("list", ("list", BIT, 2), 3)),
            (("list", ("pair", lists, lists), 3), ("list", ("pair", lists, lists), 2)),
            (("pair", lists, ("pair", lists, BIT)), ("pair", lists, ("pair", lists, NOTHING))),
            (("list", ("choice", (lists,)), 9), ("list", ("choice", (lists,)), 8)),
        ]:
            first, second = parting(s, r), parting(s, r)
            told = lists_in(first) + lists_in(second)
            self.assertGreater(len(told), 3)
            self.assertEqual(len({id(one) for one in told}), len(told))
            kept = copy.deepcopy(second)
            for one in lists_in(first):
                one.append(7)
            self.assertEqual(second, kept)
            self.assertEqual(parting(s, r), kept)


def depth_of(s):
    parts = s[1] if s[0] == "choice" else [part for part in s[1:] if isinstance(part, tuple)]
    return 1 + max([depth_of(part) for part in parts], default=0)


def by_forms(s, r):
    """The words of point [18], in another form than the program's."""
    if s[0] != r[0]:
        return False
    if s[0] == "number":
        widths = [next(n for n in range(20) if high - low < 256 ** n) for _, low, high in [s, r]]
        return (s[1], widths[0]) == (r[1], widths[1]) and not s[2] > r[2]
    if s[0] == "text":
        return s[1] in range(r[1] + 1)
    if s[0] == "list":
        return s[2] in range(r[2] + 1) and (not s[2] or by_forms(s[1], r[1]))
    mine, theirs = (s[1], r[1]) if s[0] == "choice" else (s[1:], r[1:])
    return len(mine) <= len(theirs) and all(map(by_forms, mine, theirs))


def drawn_shape(chance, depth):
    kind = chance.choice(["nothing", "number", "text", "list", "pair", "choice"])
    if depth == 1 or kind in ("nothing", "number", "text"):
        low = chance.choice([0, 0, -3, 7])
        return chance.choice([NOTHING, ("number", low, low + chance.choice([0, 1, 9, 255, 256])),
                              ("text", chance.choice([0, 1, 5]))])
    if kind == "list":
        return ("list", drawn_shape(chance, depth - 1), chance.choice([0, 1, 2, 3]))
    if kind == "pair":
        return ("pair", drawn_shape(chance, depth - 1), drawn_shape(chance, depth - 1))
    return ("choice", tuple(drawn_shape(chance, depth - 1) for _ in range(chance.choice([1, 2]))))


def near_shape(chance, s):
    """The shape with some of its numbers one more or less, or a choice with one shape more or less, or as it is."""
    if s[0] == "number":
        return ("number", s[1], max(s[1], s[2] + chance.choice([0, 0, 0, 1, -1])))
    if s[0] == "text":
        return ("text", max(0, s[1] + chance.choice([0, 0, 0, 1, -1])))
    if s[0] == "list":
        return ("list", near_shape(chance, s[1]), max(0, s[2] + chance.choice([0, 0, 0, 1, -1])))
    if s[0] == "pair":
        return ("pair", near_shape(chance, s[1]), near_shape(chance, s[2]))
    if s[0] == "choice":
        parts = tuple(near_shape(chance, part) for part in s[1])
        return ("choice", chance.choice([parts, parts, parts + (NOTHING,), parts[:-1] or parts]))
    return s


if __name__ == "__main__":
    unittest.main()
