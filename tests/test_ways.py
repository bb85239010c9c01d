"""Point [10]: ways counted, told by their numbers, and numbered."""

import copy
import itertools
import unittest

from tests.drawn import chance_of, drawn_grammar
from tests.expected import expected_ways
from wireparley.errors import NoTalk
from wireparley.talks import is_grammar
from wireparley.ways import how_many, number_of, way_of

NOTHING = ("nothing",)
END = ("end",)


def word(name, behind, shape=NOTHING):
    return (name, shape, behind)


def asking():
    return [
        ("left", [word("ask", 1, ("text", 9)), word("go", 2)]),
        ("right", [word("yes", 0), word("no", 0, ("number", 0, 9)), word("over", 2)]),
        END,
    ]


def doubling():
    """Two words that stay, and between them one that ends: 2 ** (n - 1) ways of n messages."""
    return [("left", [word("b", 0), word("out", 1), word("a", 0)]), END]


def ring():
    return [("left", [word("a", 1)]), ("right", [word("b", 2), word("x", 3)]), ("left", [word("c", 0)]), END]


def thirty():
    """A row of states, from each two words to the next one: only ways of 29 messages."""
    return [(["left", "right"][k % 2], [word("z", k + 1), word("a", k + 1)]) for k in range(29)] + [END]


def nine_words():
    return [("right", [word(name, 0) for name in "hgfedcba"] + [word("i", 1)]), END]


def never_ending():
    return [("left", [word("a", 1), word("b", 0)]), ("right", [word("c", 0)]), END]


def no_end():
    return [("right", [word("a", 0)])]


def end_first():
    return [END, ("left", [word("a", 0), word("b", 1)])]


def several_ends():
    return [
        ("left", [word("a", 1), word("b", 2), word("c", 3), word("d", 0)]),
        END,
        ("right", [word("a", 1), word("b", 4), word("c", 4)]),
        ("left", [word("a", 3)]),
        END,
    ]


GRAMMARS = [
    asking, doubling, ring, thirty, nine_words, never_ending, no_end, end_first, several_ends, lambda: [END],
    lambda: [END, END],
]


class WaysTest(unittest.TestCase):

    def no_way(self, ask, *arguments):
        with self.assertRaises(NoTalk) as caught:
            ask(*arguments)
        self.assertEqual(caught.exception.at, 0)
        self.assertIs(type(caught.exception.at), int)

    def there_and_back(self, g, n, ways):
        self.assertEqual(how_many(g, n), len(ways))
        self.assertIs(type(how_many(g, n)), int)
        for k, way in enumerate(ways):
            told = way_of(g, n, k)
            self.assertEqual(told, way)
            self.assertIs(type(told), list)
            self.assertEqual(number_of(g, way), k)
            self.assertIs(type(number_of(g, way)), int)
        for k in [-1, -2, -len(ways), len(ways), len(ways) + 1, 10 ** 99, -(10 ** 99)]:
            if not 0 <= k < len(ways):
                self.no_way(way_of, g, n, k)

    def test_they_are_grammars(self):
        for made in GRAMMARS:
            self.assertTrue(is_grammar(made()))

    def test_small_counts(self):
        for made in GRAMMARS:
            for n in range(5):
                with self.subTest(g=made(), n=n):
                    self.there_and_back(made(), n, expected_ways(made(), n))

    def test_counts(self):
        self.assertEqual([how_many(asking(), n) for n in range(8)], [0, 1, 1, 2, 2, 4, 4, 8])
        self.assertEqual([how_many(doubling(), n) for n in range(6)], [0, 1, 2, 4, 8, 16])
        self.assertEqual([how_many(ring(), n) for n in range(9)], [0, 0, 1, 0, 0, 1, 0, 0, 1])
        self.assertEqual([how_many(nine_words(), n) for n in range(4)], [0, 1, 8, 64])
        self.assertEqual([how_many(several_ends(), n) for n in range(5)], [0, 1, 4, 4, 4])
        self.assertEqual([how_many(thirty(), n) for n in [0, 28, 29, 30, 100]], [0, 0, 2 ** 29, 0, 0])

    def test_the_first_state_is_an_end(self):
        for g in [[END], [END, END], end_first()]:
            self.assertEqual(how_many(g, 0), 1)
            self.assertEqual(way_of(g, 0, 0), [])
            self.assertEqual(number_of(g, []), 0)
            for n in [1, 2, 100]:
                self.assertEqual(how_many(g, n), 0)
                self.no_way(way_of, g, n, 0)
            self.no_way(way_of, g, 0, 1)
            self.no_way(way_of, g, 0, -1)
            for way in [["a"], ["b"], ["b", "a"], [""], ["end"]]:
                self.no_way(number_of, g, way)

    def test_ends_that_are_never_reached(self):
        for g in [no_end(), never_ending(), [("left", [word("a", 0)]), END]]:
            for n in [0, 1, 2, 3, 99, 100]:
                self.assertEqual(how_many(g, n), 0)
                for k in [-1, 0, 1]:
                    self.no_way(way_of, g, n, k)
                self.no_way(number_of, g, ["a"] * n)

    def test_the_order_is_that_of_the_places(self):
        self.assertEqual(
            [way_of(doubling(), 3, k) for k in range(4)],
            [["b", "b", "out"], ["b", "a", "out"], ["a", "b", "out"], ["a", "a", "out"]],
        )
        self.assertEqual(
            [way_of(several_ends(), 2, k) for k in range(4)],
            [["b", "a"], ["b", "b"], ["b", "c"], ["d", "a"]],
        )
        self.assertEqual([way_of(asking(), 3, k) for k in range(2)], [["ask", "yes", "go"], ["ask", "no", "go"]])
        self.assertEqual(way_of(thirty(), 29, 1), ["z"] * 28 + ["a"])
        self.assertEqual(way_of(thirty(), 29, 2 ** 28), ["a"] + ["z"] * 28)

    def test_thirty_states(self):
        g = thirty()
        for k in [0, 1, 2, 3, 2 ** 15 + 77, 2 ** 28 - 1, 2 ** 28, 2 ** 29 - 2, 2 ** 29 - 1]:
            way = ["az"[sign == "0"] for sign in f"{k:029b}"]
            self.assertEqual(way_of(g, 29, k), way)
            self.assertEqual(number_of(g, way), k)
        for k in [-1, 2 ** 29, 2 ** 30]:
            self.no_way(way_of, g, 29, k)
        for n in [28, 30]:
            self.no_way(way_of, g, n, 0)
            self.no_way(number_of, g, ["z"] * n)

    def test_a_hundred_messages(self):
        self.assertEqual(how_many(doubling(), 100), 2 ** 99)
        self.assertEqual(how_many(nine_words(), 100), 8 ** 99)
        self.assertEqual(how_many(asking(), 100), 2 ** 49)
        g, count = nine_words(), 8 ** 99
        for k in [0, 1, 7, 8, 8 ** 50 + 3, count // 3, count // 7 * 5, count - 2, count - 1]:
            way = way_of(g, 100, k)
            self.assertEqual(way, ["hgfedcba"[int(sign)] for sign in f"{k:099o}"] + ["i"])
            self.assertEqual(number_of(g, way), k)
        for k in [count, count + 1, -1, -count, count * 2, 10 ** 99]:
            self.no_way(way_of, g, 100, k)

    def test_thirty_states_and_a_hundred_messages(self):
        g = [
            (side, [word(name, (k * 7 + place * 11 + 1) % 30) for place, name in enumerate("ihgfedcba")])
            for k, side in enumerate(["left"] * 15 + ["right"] * 14)
        ] + [END]
        self.assertTrue(is_grammar(g))
        count = how_many(g, 100)
        self.assertGreater(count, 10 ** 70)
        before = None
        for k in [0, 1, 2, count // 5, count // 5 + 1, count // 2, count - 2, count - 1]:
            way = way_of(g, 100, k)
            self.assertEqual(len(way), 100)
            self.assertEqual(number_of(g, way), k)
            places = ["ihgfedcba".index(name) for name in way]
            self.assertTrue(before is None or before < places)
            before = places
        self.no_way(way_of, g, 100, count)

    def test_somewhat_beyond_a_hundred(self):
        self.assertEqual(how_many(doubling(), 130), 2 ** 129)
        self.assertEqual(number_of(doubling(), way_of(doubling(), 130, 2 ** 128 + 5)), 2 ** 128 + 5)
        self.assertEqual(number_of(doubling(), ["a"] * 1999 + ["out"]), 2 ** 1999 - 1)
        for g in [doubling(), end_first()]:
            self.assertEqual(how_many(g, -1), 0)
            self.no_way(way_of, g, -1, 0)
            self.no_way(way_of, g, -1, -1)

    def test_what_is_no_way(self):
        for way in [
            [], ["ask"], ["ask", "yes"], ["ask", "yes", "ask"], ["go", "go"], ["go", "ask"], ["go", ""], ["yes"],
            ["over"], ["ask", "go"], ["ask", "over", "over"], ["ask", "over", "ask"], ["", "go"], [""], ["Go"],
            ["g"], ["go "], ["gone"], ["end"], ["left"], ["ask", "yes", "yes"], ["ask", "ask", "go"], ["go"] * 100,
            ["ask", "yes"] * 5000, ["go"] * 10000, ["%"], ["\n"],
        ]:
            with self.subTest(way=way[:6]):
                self.no_way(number_of, asking(), way)

    def test_every_list_of_names(self):
        names = ["ask", "go", "yes", "no", "over", "x"]
        for length in range(5):
            ways = expected_ways(asking(), length)
            for row in itertools.product(names, repeat=length):
                if list(row) in ways:
                    self.assertEqual(number_of(asking(), list(row)), ways.index(list(row)))
                else:
                    self.no_way(number_of, asking(), list(row))

    def test_drawn_grammars(self):
        chance = chance_of(10)
        for _ in range(60):
            g = drawn_grammar(chance, chance.choice([1, 2, 3, 5]))
            for n in range(4):
                ways = expected_ways(g, n)
                if len(ways) < 200:
                    self.there_and_back(g, n, ways)

    def test_what_is_handed_in_stays(self):
        for made in GRAMMARS:
            g = made()
            for n in range(4):
                for k in range(how_many(g, n)):
                    way = way_of(g, n, k)
                    kept = list(way)
                    number_of(g, way)
                    self.assertEqual(way, kept)
            self.assertEqual(g, made())
        way = ["ask", "yes"]
        self.no_way(number_of, asking(), way)
        self.assertEqual(way, ["ask", "yes"])

    def test_what_was_told_is_the_askers(self):
        g = asking()
        first = way_of(g, 3, 1)
        second = way_of(g, 3, 1)
        self.assertIsNot(first, second)
        first.append("more")
        first[0] = "other"
        self.assertEqual(second, ["ask", "no", "go"])
        self.assertEqual(way_of(g, 3, 1), ["ask", "no", "go"])
        empty = way_of([END], 0, 0)
        empty.append("more")
        self.assertEqual(way_of([END], 0, 0), [])
        self.assertEqual(g, asking())

    def test_the_grammar_is_not_kept(self):
        g = asking()
        self.assertEqual(how_many(g, 3), 2)
        g[1][1].insert(0, word("new", 0))
        self.assertEqual(how_many(g, 3), 3)
        self.assertEqual(way_of(g, 3, 0), ["ask", "new", "go"])
        self.assertEqual(number_of(g, ["ask", "yes", "go"]), 1)
        kept = copy.deepcopy(g)
        g[2] = ("left", [word("on", 2)])
        self.assertEqual(how_many(g, 3), 0)
        self.assertEqual(how_many(kept, 3), 3)


if __name__ == "__main__":
    unittest.main()
