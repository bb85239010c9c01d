"""Points [19], [20] and [21], and point [3] as far as it speaks of grammars that stand in for others."""

import copy
import itertools
import unittest

from tests.drawn import chance_of, drawn_message, kin_of, near_grammar, renumbered
from tests.expected import expected_bytes, expected_wires, lists_in, values_of
from tests.odd import Sour, odd_things
from wireparley.shapes import fits
from wireparley.sides import Side
from wireparley.standing import newer, stands_in, stands_so
from wireparley.talks import is_grammar

NOTHING = ("nothing",)
END = ("end",)
BIT = ("number", 0, 1)
SIDES = ["left", "right"]
OTHER = {"left": "right", "right": "left"}


def asking():
    return [
        ("left", [("ask", ("text", 9), 1), ("add", ("list", BIT, 3), 0), ("go", NOTHING, 2)]),
        ("right", [("yes", ("number", 0, 300), 0), ("no", NOTHING, 0)]),
        END,
    ]


def said_by(side, words, behind=END):
    """A state of one side with these words, and one behind it."""
    return [(side, words), behind]


def far(g, messages):
    """The grammar with so many messages ahead of it, of left and right in turn."""
    later = [s if s == END else (s[0], [(n, shape, k + messages) for n, shape, k in s[1]]) for s in g]
    return [(SIDES[k % 2], [("on", NOTHING, k + 1)]) for k in range(messages)] + later


def ahead(messages):
    return [(SIDES[k % 2], "on", None) for k in range(messages)]


class Words:
    """The words of points [19] and [20], over grammars of few values, written otherwise than the program's."""

    def __init__(self, g, h):
        self.g, self.h = g, h

    def within(self, s, r):
        return all(fits(r, value) and expected_bytes(s, value) == expected_bytes(r, value) for value in values_of(s))

    def goes_on(self, pair):
        p, q = self.g[pair[0]], self.h[pair[1]]
        if p == END or q == END:
            return p == q
        if p[0] != q[0]:
            return False
        sayer, other = (p[1], q[1]) if p[0] == "left" else (q[1], p[1])
        return len(sayer) <= len(other) and all(
            mine[0] == theirs[0] and self.within(mine[1], theirs[1]) for mine, theirs in zip(sayer, other)
        )

    def nexts(self, pair):
        p, q = self.g[pair[0]], self.h[pair[1]]
        return [] if p == END else [(mine[2], theirs[2]) for mine, theirs in zip(p[1], q[1])]

    def least(self):
        """The least likeness, or None."""
        pairs = {(0, 0)}
        while True:
            if not all(self.goes_on(pair) for pair in pairs):
                return None
            more = {behind for pair in pairs for behind in self.nexts(pair)}
            if more <= pairs:
                return sorted(pairs)
            pairs |= more

    def is_likeness(self, pairs):
        known = set(pairs)
        return (0, 0) in known and pairs == sorted(known) and all(
            self.goes_on(pair) and set(self.nexts(pair)) <= known for pair in pairs
        )

    def alike(self, talk):
        """The pair of states behind what is a talk of both with alike wires, else None."""
        mine, theirs = walked(self.g, talk), walked(self.h, talk)
        if mine is None or theirs is None or expected_wires(self.g, talk) != expected_wires(self.h, talk):
            return None
        return (mine, theirs)

    def is_parted(self, pair):
        return self.g[pair[0]][0] != self.h[pair[1]][0]

    def breaks(self, talk):
        pair = self.alike(talk)
        if pair is not None:
            return self.is_parted(pair)
        if self.alike(talk[:-1]) is None:
            return False
        sayer = {"left": self.g, "right": self.h}[talk[-1][0]]
        return walked(sayer, talk) is not None

    def messages(self):
        """All messages of both grammars."""
        told = {}
        for state in self.g + self.h:
            for name, shape, _ in [] if state == END else state[1]:
                for value in values_of(shape):
                    told[repr((state[0], name, value))] = (state[0], name, value)
        return list(told.values())

    def shortest(self, most):
        """How many messages the shortest list that breaks has; None where no list of at most so many breaks."""
        messages, talks = self.messages(), [[]]
        for length in range(most + 1):
            if any(self.breaks(talk) for talk in talks):
                return length
            # What is no talk of both with alike wires begins no list that breaks but itself. One talk to each
            # pair is enough: what breaks behind one breaks behind the others.
            going = {self.alike(talk): talk for talk in talks if self.alike(talk) is not None}
            talks = [talk + [message] for talk in going.values() for message in messages]
        return None


def walked(g, talk):
    """The state behind a talk, None where it is none."""
    state = 0
    for side, name, value in talk:
        words = [word for word in ([] if g[state] == END else g[state][1]) if word[0] == name]
        if g[state][0] != side or not words or not fits(words[0][1], value):
            return None
        state = words[0][2]
    return state


class StandingTest(unittest.TestCase):

    def likeness(self, g, h, pairs):
        self.assertTrue(is_grammar(g) and is_grammar(h))
        told = stands_in(g, h)
        self.assertEqual(told, ("likeness", pairs))
        self.assertEqual([type(part) for part in told], [str, list])
        self.assertTrue(all(type(pair) is tuple for pair in told[1]))
        self.assertIs(stands_so(g, h, told), True)

    def breaks(self, g, h, length):
        self.assertTrue(is_grammar(g) and is_grammar(h))
        told = stands_in(g, h)
        self.assertIs(type(told), tuple)
        self.assertEqual(len(told), 2)
        self.assertEqual(told[0], "breaks")
        self.assertIs(type(told[1]), list)
        self.assertTrue(all(type(message) is tuple for message in told[1]))
        self.assertEqual(len(told[1]), length)
        self.assertTrue(Words(g, h).breaks(told[1]), told)
        self.assertIs(stands_so(g, h, told), True)
        return told[1]

    def test_alike(self):
        self.likeness(asking(), asking(), [(0, 0), (1, 1), (2, 2)])
        self.likeness([END], [END], [(0, 0)])
        self.likeness([("left", [("a", BIT, 0)])], [("left", [("a", BIT, 0)])], [(0, 0)])

    def test_alike_by_other_numbers(self):
        turned = [
            ("left", [("ask", ("text", 9), 2), ("add", ("list", BIT, 3), 0), ("go", NOTHING, 1)]), END,
            ("right", [("yes", ("number", 0, 300), 0), ("no", NOTHING, 0)]),
        ]
        self.likeness(asking(), turned, [(0, 0), (1, 2), (2, 1)])
        self.likeness(turned, asking(), [(0, 0), (1, 2), (2, 1)])

    def test_only_pairs_that_are_come_to(self):
        g = [("left", [("a", NOTHING, 2)]), ("right", [("b", NOTHING, 0)]), END]
        h = [("left", [("a", NOTHING, 1)]), END, ("left", [("c", BIT, 2)])]
        self.likeness(g, h, [(0, 0), (2, 1)])

    def test_a_state_beside_several(self):
        one = [("left", [("a", NOTHING, 0)])]
        three = [("left", [("a", NOTHING, (k + 1) % 3)]) for k in range(3)]
        self.likeness(one, three, [(0, 0), (0, 1), (0, 2)])
        self.likeness(three, one, [(0, 0), (1, 0), (2, 0)])
        two = [("left", [("a", NOTHING, 1)]), ("left", [("a", NOTHING, 0)])]
        self.likeness(two, three, [(0, 0), (0, 1), (0, 2), (1, 0), (1, 1), (1, 2)])

    def test_pairs_are_in_order(self):
        # They are come to as (0, 0), (3, 2), (1, 3), (3, 1), (1, 1) and so on.
        g = [("left", [("a", NOTHING, 3), ("b", NOTHING, 1)]), ("right", [("c", NOTHING, 2)]), END,
             ("right", [("c", NOTHING, 1)])]
        h = [("left", [("a", NOTHING, 2), ("b", NOTHING, 1)]), ("right", [("c", NOTHING, 3)]),
             ("right", [("c", NOTHING, 1)]), END]
        self.likeness(g, h, [(0, 0), (1, 1), (2, 3), (3, 2)])

    def test_thirty_states(self):
        thirty = far([END], 29)
        self.likeness(thirty, far([END], 29), [(k, k) for k in range(30)])
        talk = self.breaks(thirty, far([END], 28), 28)
        self.assertEqual(talk, ahead(28))
        # Rings of 29 and 30 states come through all 870 pairs, unless they part.
        ring = [("left", [("a", BIT, (k + 1) % 30)]) for k in range(30)]
        other = [("left", [("a", BIT, (k + 1) % 29)]) for k in range(29)]
        self.likeness(ring, other, list(itertools.product(range(30), range(29))))
        other[28] = ("left", [("a", BIT, 0), ("b", BIT, 0)])
        self.likeness(ring, other, list(itertools.product(range(30), range(29))))
        self.breaks(other, ring, 29)
        ring[29] = END
        self.breaks(ring, other, 29)
        ring[29] = ("left", [("c", BIT, 0)])
        other[28] = ("left", [("a", BIT, 0), ("b", BIT, 0)])
        other[27] = ("left", [("a", BIT, 28)])
        self.breaks(ring, other, 30)

    def each_place(self, g, h, length):
        """Unlike at state 0, and with some messages ahead."""
        for messages in [0, 1, 2, 3, 8]:
            talk = self.breaks(far(g, messages), far(h, messages), length + messages)
            self.assertEqual(talk[:messages], ahead(messages))

    def each_place_alike(self, g, h, pairs):
        for messages in [0, 1, 2, 3, 8]:
            behind = [(p + messages, q + messages) for p, q in pairs]
            self.likeness(far(g, messages), far(h, messages), [(k, k) for k in range(messages)] + behind)

    def test_unlike_sides(self):
        for side in SIDES:
            g, h = said_by(side, [("a", BIT, 1)]), said_by(OTHER[side], [("a", BIT, 1)])
            self.each_place(g, h, 0)

    def test_an_end_beside_none(self):
        for side in SIDES:
            self.each_place([END], said_by(side, [("a", BIT, 1)]), 0)
            self.each_place(said_by(side, [("a", BIT, 1)]), [END], 0)

    def sayings(self):
        """Both ways round: (g, h) by the sayer's state and the other one's."""
        return [
            lambda sayer, other: (said_by("left", sayer), said_by("left", other)),
            lambda sayer, other: (said_by("right", other), said_by("right", sayer)),
        ]

    def test_words_more(self):
        short, long = [("a", BIT, 1)], [("a", BIT, 1), ("b", NOTHING, 1)]
        for saying in self.sayings():
            # More words of the other one are never said.
            self.each_place_alike(*saying(short, long), [(0, 0), (1, 1)])
            self.each_place(*saying(long, short), 1)
            nine = [(name, BIT, 1) for name in "abcdefghi"]
            self.each_place_alike(*saying(short, nine), [(0, 0), (1, 1)])
            self.each_place(*saying(nine, nine[:8]), 1)

    def test_words_in_another_order(self):
        for saying in self.sayings():
            self.each_place(*saying([("a", BIT, 1), ("b", BIT, 1)], [("b", BIT, 1), ("a", BIT, 1)]), 1)
            self.each_place(*saying([("a", BIT, 1)], [("b", BIT, 1), ("a", BIT, 1)]), 1)

    def test_words_by_other_names(self):
        for saying in self.sayings():
            self.each_place(*saying([("a", BIT, 1)], [("b", BIT, 1)]), 1)
            self.each_place(*saying([("a", BIT, 1), ("b", BIT, 1)], [("a", BIT, 1), ("c", BIT, 1)]), 1)

    def test_shapes(self):
        for narrow, wide in [
            (BIT, ("number", 0, 2)), (("text", 1), ("text", 2)), (("list", ("text", 3), 0), ("list", NOTHING, 1)),
            (("pair", BIT, BIT), ("pair", BIT, ("number", 0, 2))), (("choice", (BIT,)), ("choice", (BIT, BIT))),
        ]:
            for saying in self.sayings():
                words, others = [("x", BIT, 1), ("a", narrow, 1)], [("x", BIT, 1), ("a", wide, 1)]
                self.each_place_alike(*saying(words, others), [(0, 0), (1, 1)])
                self.each_place(*saying(others, words), 1)

    def test_shapes_with_other_bytes(self):
        for s, r in [
            (BIT, ("number", 0, 256)), (("number", 1, 2), ("number", 0, 2)), (("number", 0, 0), BIT),
            (("pair", ("number", 0, 0), BIT), ("pair", BIT, ("number", 0, 0))),
        ]:
            for saying in self.sayings():
                self.each_place(*saying([("a", s, 1)], [("a", r, 1)]), 1)
                self.each_place(*saying([("a", r, 1)], [("a", s, 1)]), 1)

    def test_next_states_that_part_later(self):
        for side in SIDES:
            g = [(side, [("a", BIT, 1), ("b", BIT, 2)]), END, END]
            h = [(side, [("a", BIT, 1), ("b", BIT, 2)]), END, (side, [("c", BIT, 2)])]
            for one, other in [(g, h), (h, g)]:
                self.each_place(one, other, 1)
                self.assertEqual(stands_in(one, other)[1][0][1], "b")

    def test_pairs_part_by_the_way(self):
        # The same states, come to as other pairs: (1, 2) and (2, 1).
        g = [("left", [("a", NOTHING, 1), ("b", NOTHING, 2)]), END, ("right", [("c", NOTHING, 1)])]
        h = [("left", [("a", NOTHING, 2), ("b", NOTHING, 1)]), END, ("right", [("c", NOTHING, 1)])]
        self.assertEqual(len(self.breaks(g, h, 1)), 1)

    def test_the_shortest_of_several(self):
        # By "a" a word is missed at the second message, by "b" the states part behind the first.
        g = [("left", [("a", BIT, 1), ("b", BIT, 2)]), ("left", [("c", BIT, 1)]), END]
        h = [("left", [("a", BIT, 1), ("b", BIT, 2)]), ("left", [("d", BIT, 1)]), ("left", [("d", BIT, 1)])]
        self.assertEqual([message[1] for message in self.breaks(g, h, 1)], ["b"])
        # Both ways are as long: either may be told.
        g = [("left", [("a", BIT, 1), ("b", BIT, 2)]), ("left", [("c", BIT, 1)]), ("left", [("e", BIT, 3)]), END]
        h = [("left", [("a", BIT, 1), ("b", BIT, 2)]), ("left", [("d", BIT, 1)]), ("left", [("e", BIT, 0)])]
        self.breaks(g, h, 2)
        # A missed word at once is shorter than states that part far behind.
        g = [("left", [("a", BIT, 1), ("b", BIT, 2)]), ("right", [("c", BIT, 2)]), END]
        h = [("left", [("a", BIT, 1)]), ("right", [("c", BIT, 0)])]
        self.assertEqual([message[1] for message in self.breaks(g, h, 1)], ["b"])
        # And as long as states that part behind the first message.
        h = [("left", [("a", BIT, 1)]), END]
        self.breaks(g, h, 1)

    def test_deep_shapes(self):
        narrow, wide = BIT, ("number", 0, 2)
        for wrap in [lambda x: ("pair", BIT, x), lambda x: ("list", x, 3), lambda x: ("choice", (NOTHING, x)),
                     lambda x: ("pair", x, ("list", BIT, 2)), lambda x: ("list", x, 9)]:
            narrow, wide = wrap(narrow), wrap(wide)
            g, h = said_by("left", [("a", narrow, 1)]), said_by("left", [("a", wide, 1)])
            self.likeness(g, h, [(0, 0), (1, 1)])
            told = stands_in(h, g)
            self.assertEqual((told[0], len(told[1])), ("breaks", 1))
            self.assertIs(stands_so(h, g, told), True)
            value = told[1][0][2]
            self.assertTrue(fits(wide, value) and not fits(narrow, value))

    def test_by_all_lists_of_messages(self):
        """Tiny grammars: what is told is measured against every list of up to three messages."""
        chance = chance_of(200)
        told = []
        for _ in range(250):
            g = near_grammar(chance, chance.choice([1, 2]))
            h = kin_of(chance, g, chance.choice([1, 1, 2, 3]))
            words, answer = Words(g, h), stands_in(g, h)
            messages = words.messages()
            lengths = [n for n in range(2 if len(messages) > 40 else 3)
                       if any(words.breaks(list(row)) for row in itertools.product(messages, repeat=n))]
            if lengths:
                self.breaks(g, h, lengths[0])
            elif answer[0] == "breaks":
                self.assertGreaterEqual(len(answer[1]), 2)
            told.append(lengths[:1])
        for lengths in [[], [0], [1], [2]]:
            self.assertGreater(told.count(lengths), 3, lengths)

    def test_drawn(self):
        chance = chance_of(201)
        told = []
        for _ in range(500):
            g = near_grammar(chance, chance.choice([1, 2, 3, 4, 6]))
            h = renumbered(chance, kin_of(chance, g, chance.choice([0, 1, 1, 2, 3])))
            if chance.random() < 0.5:
                g, h = h, g
            words = Words(g, h)
            least = words.least()
            if least is not None:
                self.likeness(g, h, least)
                self.assertIs(words.shortest(3), None)
                told.append("likeness")
            else:
                self.breaks(g, h, words.shortest(len(g) * len(h)))
                told.append(len(stands_in(g, h)[1]))
        for one in ["likeness", 0, 1, 2, 3]:
            self.assertGreater(told.count(one), 5, one)


class StandsSoTest(unittest.TestCase):

    def shows(self, g, h, answer):
        self.assertIs(stands_so(g, h, answer), True, answer)

    def shows_not(self, g, h, answer):
        if stands_so(g, h, answer) is not False:
            self.fail("not told as none: " + repr(answer)[:300])

    def two(self):
        """Two states of left that go round, and a third one alone."""
        return [("left", [("a", NOTHING, 1)]), ("left", [("a", NOTHING, 0)]), ("left", [("a", NOTHING, 2)])]

    def test_likenesses(self):
        g = asking()
        self.shows(g, g, ("likeness", [(0, 0), (1, 1), (2, 2)]))
        self.shows([END], [END], ("likeness", [(0, 0)]))

    def test_likenesses_that_are_not_the_least(self):
        g = self.two()
        least = [(0, 0), (1, 1)]
        self.assertEqual(stands_in(g, g), ("likeness", least))
        self.shows(g, g, ("likeness", least))
        self.shows(g, g, ("likeness", [(0, 0), (0, 1), (1, 0), (1, 1)]))
        self.shows(g, g, ("likeness", [(0, 0), (1, 1), (2, 2)]))
        self.shows(g, g, ("likeness", [(0, 0), (0, 2), (1, 1), (1, 2)]))
        self.shows(g, g, ("likeness", list(itertools.product(range(3), repeat=2))))
        h = [END, ("left", [("a", NOTHING, 1)]), END]
        self.shows(h, h, ("likeness", [(0, 0), (0, 2), (2, 0), (2, 2)]))

    def test_lists_that_lack_a_pair(self):
        g = self.two()
        for pairs in [[], [(1, 1)], [(2, 2)], [(0, 1), (1, 0)], [(0, 0)], [(0, 0), (0, 1), (1, 1)],
                      [(0, 0), (1, 1), (1, 2)], [(0, 0), (0, 1), (1, 0)]]:
            self.shows_not(g, g, ("likeness", pairs))
        # Only the sayer's words lead on.
        h = [("left", [("a", NOTHING, 1), ("b", NOTHING, 2)])] + self.two()[1:]
        self.shows(g, h, ("likeness", [(0, 0), (1, 1)]))
        self.shows_not(h, g, ("likeness", [(0, 0), (1, 1)]))
        turned = [("right", words) for _, words in h]
        again = [("right", words) for _, words in g]
        self.shows(turned, again, ("likeness", [(0, 0), (1, 1)]))
        self.shows_not(again, turned, ("likeness", [(0, 0), (1, 1)]))

    def test_lists_with_a_pair_that_does_not_go_on(self):
        g = [("left", [("a", BIT, 0)]), END, ("right", [("b", BIT, 1)]), ("left", [("c", BIT, 0)]),
             ("left", [("a", ("number", 0, 2), 0)])]
        self.shows(g, g, ("likeness", [(0, 0)]))
        self.shows(g, g, ("likeness", [(0, 0), (1, 1), (2, 2), (3, 3), (4, 4)]))
        for p, q in itertools.product(range(5), repeat=2):
            pairs = sorted({(0, 0), (1, 1), (p, q)})
            self.assertIs(stands_so(g, g, ("likeness", pairs)), p == q or (p, q) == (0, 4), (p, q))

    def test_lists_with_a_pair_twice_or_out_of_order(self):
        g = asking()
        for pairs in itertools.product([(0, 0), (1, 1), (2, 2)], repeat=4):
            self.shows_not(g, g, ("likeness", list(pairs)))
        for pairs in itertools.permutations([(0, 0), (1, 1), (2, 2)]):
            self.assertIs(stands_so(g, g, ("likeness", list(pairs))), pairs == ((0, 0), (1, 1), (2, 2)))
        g = self.two()
        self.shows_not(g, g, ("likeness", [(0, 0), (1, 0), (0, 1), (1, 1)]))

    def test_things_that_are_no_pairs(self):
        g = asking()
        right = [(0, 0), (1, 1), (2, 2)]
        for thing in [
            (0,), (0, 0, 0), [0, 0], "00", 0, None, True, (0, 3), (3, 0), (3, 3), (-1, 2), (2, -1), (-3, -3), (0, None),
            (True, True), (True, 1), (1, True), (False, 0), (0, False), (1.0, 1), (1, 1.0), ("0", "0"), (10 ** 99, 0),
            ((0, 0), (0, 0)), (), {}, {0: 0},
        ]:
            self.shows_not(g, g, ("likeness", [thing]))
            self.shows_not(g, g, ("likeness", right + [thing]))
            self.shows_not(g, g, ("likeness", [thing] + right))
            self.shows_not(g, g, ("likeness", right[:1] + [thing] + right[2:]))
            self.shows_not(g, g, ("likeness", right[:2] + [thing] + right[2:]))

    def test_every_list_of_pairs(self):
        chance = chance_of(202)
        count = {True: 0, False: 0}
        for _ in range(60):
            g = near_grammar(chance, chance.choice([1, 2, 3]))
            h = renumbered(chance, kin_of(chance, g, chance.choice([0, 1, 2])))
            words = Words(g, h)
            pairs = list(itertools.product(range(len(g)), range(len(h))))
            for picked in itertools.product([True, False], repeat=len(pairs)):
                row = [pair for pair, taken in zip(pairs, picked) if taken]
                expected = words.is_likeness(row)
                count[expected] += 1
                self.assertIs(stands_so(g, h, ("likeness", row)), expected, (g, h, row))
        self.assertGreater(count[True], 60)

    def breaking(self):
        """The left may say "c" in state 1, the right by its grammar not; behind "b" the right has ended."""
        g = [("left", [("a", BIT, 0), ("b", NOTHING, 1)]), ("left", [("c", ("text", 1), 0)]), END]
        h = [("left", [("a", BIT, 0), ("b", NOTHING, 1)]), END]
        return g, h

    def test_breaking_lists_that_are_not_shortest(self):
        g, h = self.breaking()
        a, b = ("left", "a", 1), ("left", "b", None)
        self.assertEqual(len(stands_in(g, h)[1]), 1)
        for count in [0, 1, 2, 50]:
            self.shows(g, h, ("breaks", [a] * count + [b]))
            self.shows(h, g, ("breaks", [a] * count + [b]))
            self.shows_not(g, h, ("breaks", [a] * count))

    def test_a_break_that_is_not_the_last(self):
        g, h = said_by("left", [("a", BIT, 0), ("b", BIT, 0)]), said_by("left", [("a", BIT, 0), ("c", BIT, 0)])
        a, b, c = ("left", "a", 1), ("left", "b", 0), ("left", "c", 0)
        self.shows(g, h, ("breaks", [a, b]))
        for more in [a, b, c, END, None]:
            self.shows_not(g, h, ("breaks", [a, b, more]))
            self.shows_not(g, h, ("breaks", [b, more]))
        # Other bytes, but a talk of both.
        g, h = said_by("left", [("a", BIT, 0)]), said_by("left", [("a", ("number", 0, 256), 0)])
        self.shows(g, h, ("breaks", [a]))
        self.shows_not(g, h, ("breaks", [a, a]))

    def test_lists_that_break_nothing(self):
        g, h = self.breaking()
        a, b = ("left", "a", 1), ("left", "b", None)
        for talk in [[], [a], [a, a], [("left", "a", 2)], [("left", "x", None)], [("right", "a", 1)], [b, a],
                     [("left", "a", True)], [b, b], [("right", "b", None)]]:
            self.shows_not(g, h, ("breaks", talk))
        for g in [asking(), [END]]:
            self.shows_not(g, g, ("breaks", []))
            self.shows_not(g, g, ("breaks", [("left", "go", None)]))
            self.shows_not(g, g, ("breaks", [("left", "go", None), ("left", "go", None)]))
            self.shows_not(g, g, ("breaks", [("left", "ask", ""), ("right", "yes", 301)]))

    def test_only_what_the_sayer_says(self):
        # "b" is only in the other one's state: nobody says it.
        for side in SIDES:
            short, long = said_by(side, [("a", BIT, 0)]), said_by(side, [("a", BIT, 0), ("b", BIT, 0)])
            sayer, other = (short, long) if side == "left" else (long, short)
            message = (side, "b", 1)
            self.shows_not(sayer, other, ("breaks", [message]))
            self.shows_not(sayer, other, ("breaks", [(side, "a", 0), message]))
            self.shows(other, sayer, ("breaks", [message]))
            self.shows(other, sayer, ("breaks", [(side, "a", 0), message]))
            wide = said_by(side, [("a", ("number", 0, 2), 0)])
            sayer, other = (short, wide) if side == "left" else (wide, short)
            self.shows_not(sayer, other, ("breaks", [(side, "a", 2)]))
            self.shows(other, sayer, ("breaks", [(side, "a", 2)]))
            self.shows_not(other, sayer, ("breaks", [(side, "a", 1)]))
            self.shows_not(other, sayer, ("breaks", [(side, "a", 3)]))

    def test_other_places_and_other_bytes(self):
        words = [("a", BIT, 0), ("b", BIT, 0)]
        for side in SIDES:
            g, h = said_by(side, words), said_by(side, words[::-1])
            for message in [(side, "a", 1), (side, "b", 0)]:
                self.shows(g, h, ("breaks", [message]))
                self.shows(h, g, ("breaks", [message]))
                self.shows_not(g, g, ("breaks", [message]))

    def test_unlike_states_at_once(self):
        for g, h in [([END], said_by("left", [("a", BIT, 1)])), (said_by("right", [("a", BIT, 1)]), [END]),
                     (said_by("left", [("a", BIT, 1)]), said_by("right", [("a", BIT, 1)]))]:
            for one, other in [(g, h), (h, g)]:
                self.shows(one, other, ("breaks", []))
                self.shows_not(one, other, ("likeness", [(0, 0)]))

    def test_one_more_behind_states_that_part(self):
        """Its sayer says it, the other one's grammar has it not: so it breaks, though a shorter list does too."""
        g, h = self.breaking()
        b, c = ("left", "b", None), ("left", "c", "x")
        self.shows(g, h, ("breaks", [b, c]))
        self.shows_not(g, h, ("breaks", [b, c, ("left", "a", 1)]))
        self.shows_not(g, h, ("breaks", [b, ("left", "c", "xy")]))
        # By h on the left nobody says "c", and by g on the right not the left's words.
        self.shows_not(h, g, ("breaks", [b, c]))

    def test_alike_wires_of_unlike_messages(self):
        """What "a" has too few bytes of by g, "b" has too many: the wires of both are alike, those of one are not."""
        none, one = ("number", 0, 0), ("number", 0, 9)
        g = [("left", [("a", none, 1)]), ("left", [("b", one, 2)]), END]
        h = [("left", [("a", one, 1)]), ("left", [("b", none, 2)]), ("right", [("c", BIT, 2)])]
        a, b = ("left", "a", 0), ("left", "b", 0)
        self.assertEqual(expected_wires(g, [a, b]), expected_wires(h, [a, b]))
        self.shows(g, h, ("breaks", [a]))
        self.shows(g, h, ("breaks", [a, b]))
        self.assertEqual(stands_in(g, h), ("breaks", [a]))
        self.shows_not(g, g, ("breaks", [a, b]))

    def test_drawn_lists(self):
        chance = chance_of(203)
        count = {True: 0, False: 0}
        for _ in range(400):
            g = near_grammar(chance, chance.choice([1, 2, 3]))
            h = kin_of(chance, g, chance.choice([1, 2, 3]))
            words = Words(g, h)
            messages = words.messages() or [("left", "a", None)]
            for _ in range(40):
                talk = []
                while len(talk) < 6 and words.alike(talk) is not None and chance.random() < 0.8:
                    pair = words.alike(talk)
                    states = [state for state in (g[pair[0]], h[pair[1]]) if state != END]
                    talk.append(drawn_message(chance, chance.choice(states))[0]
                                if states and chance.random() < 0.8 else chance.choice(messages))
                expected = words.breaks(talk)
                count[expected] += 1
                self.assertIs(stands_so(g, h, ("breaks", talk)), expected, (g, h, talk))
        self.assertGreater(min(count.values()), 1000)

    def test_other_texts(self):
        g, h = self.breaking()
        talk, pairs = stands_in(g, h)[1], stands_in(g, g)[1]
        for text in ["", "break", "Breaks", "breaks ", "likenes", "likeness ", "Likeness", "likely", "talk", "\u00e9"]:
            self.shows_not(g, h, (text, talk))
            self.shows_not(g, g, (text, pairs))
            self.shows_not(g, g, (text, []))
        self.shows_not(g, h, ("likeness", talk))
        self.shows_not(g, g, ("breaks", pairs))

    def test_lists_of_whatever_things(self):
        g, h = self.breaking()
        b = ("left", "b", None)
        for k, thing in enumerate(odd_things() + [True, 2, "%", "ab", (), []]):
            with self.subTest(k):
                for text in ["likeness", "breaks", "", "else"]:
                    for row in [[thing], [thing, thing], [b, thing], [(0, 0), thing], [(thing, thing)], [(thing, 0)],
                                [(0, thing)], [(0, 0), (1, thing)], [(thing, "b", None)], [("left", thing, None)],
                                [("left", "b", thing)], [("left", "a", thing)], [b, ("left", "c", thing)], [thing, b]]:
                        self.shows_not(g, h, (text, row))
                        self.shows_not(h, h, (text, row))

    def test_whatever_answer(self):
        """Only tuples of a text and a list are promised to be told of; all else is told as none too."""
        g = asking()
        pairs = [(0, 0), (1, 1), (2, 2)]
        for answer in [
            None, True, "likeness", (), ("likeness",), ("likeness", pairs, pairs), ["likeness", pairs], (Sour(), pairs),
            ("likeness", tuple(pairs)), ("likeness", None), (None, pairs), ("breaks", ()), ("breaks", None), (pairs,
                                                                                                              "likeness"),
        ] + odd_things():
            self.shows_not(g, g, answer)
            self.shows_not(g, [END], answer)


class NewerTest(unittest.TestCase):

    def told(self, g, h, truths):
        self.assertTrue(is_grammar(g) and is_grammar(h))
        answer = newer(g, h)
        self.assertEqual(answer, truths)
        self.assertIs(type(answer), tuple)
        self.assertEqual([type(part) for part in answer], [bool, bool])

    def test_the_same_twice(self):
        for g in [asking(), [END], said_by("left", [("a", BIT, 0)])]:
            self.told(g, copy.deepcopy(g), (True, True))

    def test_words_put_behind(self):
        # The newer one knows words more: of the left, so it may hear them on the right only; and turned about.
        old = [("left", [("a", BIT, 1)]), ("right", [("b", BIT, 0)])]
        more = [("left", [("a", BIT, 1), ("c", BIT, 0)]), ("right", [("b", BIT, 0)])]
        self.told(old, more, (False, True))
        self.told(more, old, (True, False))
        more = [("left", [("a", BIT, 1)]), ("right", [("b", BIT, 0), ("c", BIT, 0)])]
        self.told(old, more, (True, False))
        self.told(more, old, (False, True))
        more = [("left", [("a", BIT, 1), ("d", BIT, 0)]), ("right", [("b", BIT, 0), ("c", BIT, 0)])]
        self.told(old, more, (False, False))
        self.told(more, old, (False, False))

    def test_words_put_ahead(self):
        old, more = said_by("left", [("a", BIT, 1)]), said_by("left", [("b", BIT, 1), ("a", BIT, 1)])
        self.told(old, more, (False, False))

    def test_wider_shapes(self):
        old, wide = said_by("left", [("a", BIT, 1)]), said_by("left", [("a", ("number", 0, 2), 1)])
        self.told(old, wide, (False, True))
        self.told(wide, old, (True, False))

    def test_drawn(self):
        chance = chance_of(210)
        seen = set()
        for _ in range(300):
            g = near_grammar(chance, chance.choice([1, 2, 3, 5]))
            h = kin_of(chance, g, chance.choice([1, 1, 2]))
            truths = (Words(h, g).least() is not None, Words(g, h).least() is not None)
            seen.add(truths)
            self.told(g, h, truths)
        self.assertEqual(len(seen), 4)


class TogetherTest(unittest.TestCase):
    """Point [21]: with a likeness both sides go together, each by its own grammar."""

    def run_together(self, chance, g, h, acts):
        grammars = {"left": g, "right": h}
        sides = {"left": Side(g, "left"), "right": Side(h, "right")}
        lying, talks = {"left": [], "right": []}, {"left": [], "right": []}
        said = 0
        while True:
            states = {side: grammars[side][sides[side].state()] for side in SIDES}
            may = [("say", side) for side in SIDES if states[side][0] == side and said < acts]
            may += [("take", side) for side in SIDES if lying[OTHER[side]]]
            if not may:
                break
            act, side = chance.choice(may)
            if act == "say":
                message = drawn_message(chance, states[side])[0]
                lying[side] += sides[side].say(message[1], message[2])
                talks[side].append(message)
                said += 1
            else:
                wire = lying[OTHER[side]]
                count = chance.choice([1, len(wire), chance.randint(1, len(wire))])
                talks[side] += sides[side].take(wire[:count])
                lying[OTHER[side]] = wire[count:]
        self.assertEqual(talks["left"], talks["right"])
        self.assertEqual([sides[side].waiting() for side in SIDES], [0, 0])
        # Stuck nowhere: either all was said that should be, or both have ended.
        self.assertTrue(said == acts or [states[side] for side in SIDES] == [END, END])
        return len(talks["left"])

    def test_drawn_orders(self):
        chance = chance_of(211)
        pairs, messages = 0, 0
        while pairs < 120:
            g = near_grammar(chance, chance.choice([2, 3, 5, 30]))
            h = renumbered(chance, kin_of(chance, g, chance.choice([1, 2, 4])))
            if g != h and stands_in(g, h)[0] == "likeness":
                pairs += 1
                for _ in range(3):
                    messages += self.run_together(chance, g, h, 40)
        self.assertGreater(messages, 2000)

    def test_words_that_only_the_other_one_knows(self):
        chance = chance_of(212)
        g = [("left", [("a", BIT, 1)]), ("right", [("b", ("text", 1), 0), ("c", ("list", BIT, 2), 1), ("d", BIT, 0)])]
        h = [("left", [("a", ("number", 0, 2), 1), ("x", BIT, 0)]), ("right", [("b", ("text", 0), 0),
                                                                           ("c", ("list", BIT, 1), 1)])]
        self.assertEqual(stands_in(g, h), ("likeness", [(0, 0), (1, 1)]))
        for _ in range(20):
            self.run_together(chance, g, h, 60)


class AskedTest(unittest.TestCase):
    """Point [2]."""

    def cases(self):
        chance = chance_of(220)
        drawn = [near_grammar(chance, 3) for _ in range(30)]
        return [(asking(), asking()), (asking(), [END])] + [(g, kin_of(chance, g, 2)) for g in drawn]

    def test_what_is_handed_in_stays(self):
        for g, h in self.cases():
            kept = copy.deepcopy((g, h))
            answer = stands_in(g, h)
            held = copy.deepcopy(answer)
            for _ in range(2):
                self.assertEqual(stands_in(g, h), held)
                self.assertEqual((stands_so(g, h, answer), newer(g, h)), (True, newer(g, h)))
                stands_so(g, h, ("likeness", [(0, 0), (0, 0)]))
                stands_so(g, h, ("breaks", [("left", "a", [1])]))
            self.assertEqual((g, h), kept)
            self.assertEqual(answer, held)

    def test_each_told_list_is_new(self):
        lists = ("list", ("list", BIT, 2), 4)
        g = [("left", [("a", lists, 1)]), ("right", [("b", lists, 2)]), ("left", [("a", ("pair", lists, lists), 1)]),
             ("left", [("a", ("list", lists, 4), 3)])]
        h = copy.deepcopy(g[:2]) + [("left", [("a", ("pair", lists, NOTHING), 1)])]
        k = [("left", [("a", ("list", lists, 3), 0)])]
        for one, other, most in [(g, h, 4), (g, copy.deepcopy(g), 1), (g[3:], k, 1)]:
            one = [(side, [(n, s, behind % len(one)) for n, s, behind in words]) for side, words in one]
            first, second = stands_in(one, other), stands_in(one, other)
            told = lists_in(first) + lists_in(second)
            self.assertGreaterEqual(len(told), 2 * most)
            self.assertEqual(len({id(part) for part in told}), len(told))
            kept = copy.deepcopy(second)
            for part in lists_in(first):
                part.append("more")
            self.assertEqual(second, kept)
            self.assertEqual(stands_in(one, other), kept)

    def test_nothing_is_kept(self):
        g, h = asking(), asking()
        answer = stands_in(g, h)
        h[1][1].pop()
        self.assertEqual(stands_in(g, h), answer)
        self.assertEqual(newer(g, h), (False, True))
        g[0][1].append(("more", NOTHING, 2))
        self.assertEqual(stands_in(g, h), ("breaks", [("left", "more", None)]))
        self.assertIs(stands_so(g, h, answer), False)
        self.assertEqual(answer, ("likeness", [(0, 0), (1, 1), (2, 2)]))


if __name__ == "__main__":
    unittest.main()
