"""Points [8] and [9]: which things are grammars, and which lists of messages are talks."""

import copy
import itertools
import unittest

from tests.odd import deep_things, odd_things
from wireparley.errors import NoTalk
from wireparley.talks import is_grammar, is_whole, state_behind

NOTHING = ("nothing",)
END = ("end",)


def asking():
    """Left asks and right answers, again and again, till left goes."""
    return [
        ("left", [("ask", ("text", 9), 1), ("go", NOTHING, 2)]),
        ("right", [("yes", ("number", 0, 9), 0), ("no", NOTHING, 0), ("ask", ("list", ("number", 0, 1), 2), 3)]),
        END,
        ("left", [("yes", ("pair", NOTHING, ("number", 0, 1)), 1), ("end", ("choice", (NOTHING, ("text", 1))), 2)]),
    ]


ASK = ("left", "ask", "how")
YES = ("right", "yes", 7)
NO = ("right", "no", None)
BACK = ("right", "ask", [0, 1])
SO = ("left", "yes", (None, 1))
LAST = ("left", "end", ("of", 1, "x"))
GO = ("left", "go", None)

# Each row: a talk of asking() and the state behind it.
TALKS = [
    ([], 0),
    ([ASK], 1),
    ([GO], 2),
    ([ASK, YES], 0),
    ([ASK, NO], 0),
    ([ASK, NO, GO], 2),
    ([ASK, BACK], 3),
    ([ASK, BACK, SO], 1),
    ([ASK, BACK, SO, YES, ASK, NO, GO], 2),
    ([ASK, BACK, LAST], 2),
]


def word(name="ask", shape=NOTHING, behind=0):
    return (name, shape, behind)


def with_word(one):
    return [("left", [one]), END]


def names_of(count):
    return ["".join(letters) for letters in itertools.product("abcdz", repeat=2)][:count]


class IsGrammarTest(unittest.TestCase):

    def grammar(self, thing):
        if is_grammar(thing) is not True:
            self.fail(f"not told as a grammar: {thing!r}"[:300])

    def none(self, thing):
        if is_grammar(thing) is not False:
            self.fail(f"not told as none: {thing!r}"[:300])

    def test_grammars(self):
        self.grammar(asking())
        self.grammar([END])
        self.grammar([END, END])
        self.grammar([("left", [word()])])
        self.grammar([("right", [word()])])
        self.grammar([("left", [word("go", NOTHING, 1)]), ("right", [word("go", NOTHING, 0)])])
        self.grammar([END, ("right", [word("go", ("number", 0, 3), 0)])])

    def test_counts_of_states(self):
        self.none([])
        for count in [1, 2, 29, 30]:
            self.grammar([END] * count)
            self.grammar([("left", [word(behind=count - 1)])] * count)
        for count in [31, 32, 300]:
            self.none([END] * count)
            self.none([("left", [word()])] * count)

    def test_counts_of_words(self):
        self.none([("left", [])])
        for count in [1, 2, 8, 9]:
            self.grammar([("left", [word(name) for name in names_of(count)])])
            self.grammar([("right", [word(name) for name in names_of(count)])])
        for count in [10, 11, 25]:
            self.none([("left", [word(name) for name in names_of(count)])])
            self.none([("right", [word(name) for name in names_of(count)])])

    def test_names(self):
        for name in ["a", "z", "ab", "abcdefgh", "zzzzzzzz", "left", "right", "end", "of", "aaaaaaa"]:
            self.grammar(with_word(word(name)))
        for name in [
            "", "abcdefghi", "aaaaaaaaaaaaaaaa", "A", "Z", "aB", "Ab", "a1", "1", "a b", " ", " a", "a ", "a_b", "_",
            "a-b", "a%", "a\n", "\n", "a\t", "`", "{", "@", "[", "\u00e9", "\u00df", "a\u00e9", "\u0430", "\u00aa",
            "\u0131", "\ud800", "\x00", "a.",
        ]:
            self.none(with_word(word(name)))

    def test_names_are_texts(self):
        for name in [None, 0, 1, True, b"ask", ("a",), ["a"], ["a", "b"], {"a": 1}, {"a"}]:
            self.none(with_word(word(name)))

    def test_every_letter(self):
        for number in range(0, 400):
            for name in [chr(number), "ab" + chr(number), chr(number) + "z"]:
                self.assertIs(is_grammar(with_word(word(name))), 97 <= number <= 122, repr(name))

    def test_a_name_twice(self):
        self.none([("left", [word("ask"), word("ask")])])
        self.none([("left", [word("ask"), word("no"), word("ask", ("text", 1), 0)])])
        self.none([("left", [word("no"), word("ask"), word("ask")])])
        self.none([END, ("right", [word("a"), word("b"), word("a", NOTHING, 1)])])
        self.grammar([("left", [word("ask"), word("asks")]), ("left", [word("ask")]), ("right", [word("ask")])])

    def test_next_states(self):
        two = [("left", [word(behind=0), word("no", behind=1)]), END]
        self.grammar(two)
        for behind in [-1, -2, 2, 3, 30, 10 ** 30, True, False, None, 1.0, "1", (1,), [1]]:
            self.none(with_word(word(behind=behind)))
            self.none([END, ("right", [word("a"), word("b", NOTHING, behind)])])
        self.none([("left", [word(behind=1)])])
        self.grammar([END] * 29 + [("left", [word(behind=29)])])
        self.none([END] * 29 + [("left", [word(behind=30)])])

    def test_sides(self):
        for side in ["Left", "LEFT", "", "l", "both", "middle", " left", "left ", None, 0, True, b"left", ("left",),
                     "lefty", "end", "rights"]:
            self.none([(side, [word()])])
        self.none([("right",)])
        self.none([("left",)])

    def test_ends(self):
        for state in [("end", []), ("end", None), ("End",), ("ends",), ("",), "end", ["end"], (), (END,), (None,),
                      ("end", [word()]), ("end", "end"), None]:
            self.none([state])
            self.none([END, state])
            self.none([state, END])

    def test_states(self):
        for state in [
            ("left", [word()], None), ["left", [word()]], ("left", (word(),)), ("left", word()), ("left", None),
            ("left", {"ask": word()}), [word()], "left", ("left", "ask"), ([word()], "left"), ("left", [word()], 0),
        ]:
            self.none([state])
            self.none([END, state])

    def test_words(self):
        for one in [
            ("ask", NOTHING), ("ask", NOTHING, 0, 0), ("ask",), (), ["ask", NOTHING, 0], "ask", None, "asks",
            ("ask", 0, NOTHING), (NOTHING, "ask", 0), ("a", "b", "c"), 3, "abc",
        ]:
            self.none([("left", [one])])
            self.none([("left", [word("no"), one])])
            self.none([END, ("right", [one, word("no")])])

    def test_shapes_of_words(self):
        deep = NOTHING
        for _ in range(5):
            deep = ("list", deep, 1)
        for shape in [NOTHING, ("text", 0), ("text", 250), ("number", -1, 1), deep, ("choice", (deep[1], NOTHING))]:
            self.grammar(with_word(word(shape=shape)))
        for shape in [
            None, "nothing", ["nothing"], ("none",), ("text", 251), ("text", True), ("number", 1, 0), (),
            ("choice", ()), ("list", deep, 1), ("pair", NOTHING), 0, ("choice", (NOTHING,) * 10),
            ("choice", (("choice", (NOTHING,) * 9),) * 6),
        ]:
            self.none(with_word(word(shape=shape)))
            self.none([END, ("right", [word("a"), word("b", shape, 0)])])

    def test_other_things(self):
        for thing in [None, True, 0, 1, "", "end", (), (END,), END, tuple(asking()), {}, {0: END}, [None], [0], [[]],
                      [()], ["end"], [[END]], [asking()]]:
            self.none(thing)

    def test_of_anything(self):
        for k, thing in enumerate(odd_things()):
            with self.subTest(k):
                self.assertIs(is_grammar(thing), False)

    def test_anything_within(self):
        for k, thing in enumerate(odd_things()):
            with self.subTest(k):
                for around in [
                    [thing], [END, thing], [(thing,)], [(thing, [word()])], [("left", thing)], [("left", [thing])],
                    [("left", [word("a"), thing])], with_word((thing, NOTHING, 0)), with_word(("ask", thing, 0)),
                    with_word(("ask", NOTHING, thing)), [("end", thing)],
                ]:
                    self.assertIs(is_grammar(around), False)

    def test_what_is_handed_in_stays(self):
        grammar = asking()
        for _ in range(3):
            self.grammar(grammar)
            self.assertEqual(grammar, asking())

    def test_it_is_not_kept(self):
        grammar = asking()
        self.grammar(grammar)
        grammar[0][1].append(("ask", NOTHING, 0))
        self.none(grammar)
        self.none(grammar)
        grammar[0][1].pop()
        self.grammar(grammar)
        grammar.pop()
        self.none(grammar)


class TalksTest(unittest.TestCase):

    def refused(self, talk, at, grammar=None):
        for ask in [state_behind, is_whole]:
            with self.assertRaises(NoTalk) as caught:
                ask(asking() if grammar is None else grammar, talk)
            self.assertEqual(caught.exception.at, at)
            self.assertIs(type(caught.exception.at), int)

    def test_talks(self):
        self.assertTrue(is_grammar(asking()))
        for talk, state in TALKS:
            with self.subTest(talk=talk):
                self.assertEqual(state_behind(asking(), talk), state)
                self.assertIs(type(state_behind(asking(), talk)), int)

    def test_whole_talks(self):
        for talk, state in TALKS:
            with self.subTest(talk=talk):
                self.assertIs(is_whole(asking(), talk), state == 2)

    def test_the_empty_talk(self):
        self.assertEqual(state_behind([END], []), 0)
        self.assertIs(is_whole([END], []), True)
        self.assertIs(is_whole(asking(), []), False)
        self.assertEqual(state_behind([("right", [word()]), END], []), 0)
        self.assertIs(is_whole([("right", [word()]), END], []), False)

    def test_a_talk_that_never_ends(self):
        grammar = [("right", [("on", NOTHING, 0)])]
        for count in [0, 1, 2, 2000]:
            self.assertEqual(state_behind(grammar, [("right", "on", None)] * count), 0)
            self.assertIs(is_whole(grammar, [("right", "on", None)] * count), False)

    def test_a_long_talk(self):
        talk = [ASK, NO] * 999
        self.assertEqual(state_behind(asking(), talk), 0)
        self.assertIs(is_whole(asking(), talk + [GO]), True)
        self.refused(talk + [NO], 1998)
        self.refused(talk + [GO, GO], 1999)

    def test_the_other_side(self):
        self.refused([("right", "ask", "how")], 0)
        self.refused([("right", "go", None)], 0)
        self.refused([ASK, ("left", "yes", 7)], 1)
        self.refused([ASK, ("left", "ask", [0, 1])], 1)
        self.refused([ASK, ASK], 1)
        self.refused([ASK, YES, YES], 2)
        self.refused([ASK, BACK, ("right", "yes", (None, 1))], 2)
        self.refused([("end", "ask", "how")], 0)
        self.refused([("", "ask", "how")], 0)
        self.refused([("Left", "ask", "how")], 0)

    def test_a_name_that_is_not_there(self):
        self.refused([("left", "yes", (None, 1))], 0)
        self.refused([("left", "tell", None)], 0)
        self.refused([("left", "", None)], 0)
        self.refused([("left", "Go", None)], 0)
        self.refused([("left", "g", None)], 0)
        self.refused([ASK, ("right", "go", None)], 1)
        self.refused([ASK, BACK, ("left", "go", None)], 2)

    def test_a_value_that_does_not_fit(self):
        self.refused([("left", "ask", None)], 0)
        self.refused([("left", "ask", "more than nine")], 0)
        self.refused([("left", "ask", "%")], 0)
        self.refused([("left", "go", "how")], 0)
        self.refused([("left", "go", 0)], 0)
        self.refused([ASK, ("right", "yes", 10)], 1)
        self.refused([ASK, ("right", "yes", True)], 1)
        self.refused([ASK, ("right", "ask", "how")], 1)
        self.refused([ASK, ("right", "ask", [0, 1, 1])], 1)
        self.refused([ASK, BACK, ("left", "yes", 7)], 2)
        self.refused([ASK, BACK, ("left", "end", ("of", 2, "x"))], 2)

    def test_behind_an_end(self):
        self.refused([GO, GO], 1)
        self.refused([GO, ASK], 1)
        self.refused([GO, NO], 1)
        self.refused([ASK, NO, GO, ASK], 3)
        self.refused([GO, ("end", "go", None)], 1)
        self.refused([GO, END], 1)
        self.refused([GO, None], 1)
        self.refused([("left", "ask", None)], 0, [END])
        self.refused([("end", "ask", None)], 0, [END, ("left", [word("ask")])])
        self.refused([("left", "ask", None)], 0, [END, ("left", [word("ask")])])

    def test_the_first_that_is_none(self):
        self.refused([ASK, NO, YES, YES, None], 2)
        self.refused([None, ASK], 0)
        self.refused([ASK, None, None], 1)
        self.refused([ASK, NO, GO, GO, GO], 3)

    def test_things_that_are_no_messages(self):
        for thing in [
            None, 0, True, "", "ask", (), [], {}, ("left",), ("left", "ask"), ("left", "ask", "how", None),
            ["left", "ask", "how"], ("ask", "left", "how"), ("left", ("ask",), "how"), (("left",), "ask", "how"),
            ("left", 0, "how"), (0, "ask", "how"), (None, None, None), ("left", None, "how"), (True, "ask", "how"),
            {"left": "ask"}, "lag", ("left", b"ask", "how"), (b"left", "ask", "how"), ("left", ["ask"], "how"),
        ]:
            with self.subTest(thing=thing):
                self.refused([thing], 0)
                self.refused([ASK, NO, thing], 2)
                self.refused([ASK, thing, NO], 1)

    def test_anything_is_refused(self):
        for k, thing in enumerate(odd_things() + deep_things()):
            with self.subTest(k):
                for message in [thing, (thing, "ask", "how"), ("left", thing, "how"), ("left", "ask", thing),
                                ("left", "go", thing), (thing, thing, thing)]:
                    self.refused([message], 0)
                    self.refused([ASK, NO, message, GO], 2)
                    self.refused([GO, message], 1)

    def test_a_name_in_several_states(self):
        grammar = [
            ("left", [("a", ("number", 0, 1), 1), ("b", NOTHING, 0)]),
            ("left", [("a", ("text", 1), 2), ("b", NOTHING, 0)]),
            ("right", [("a", NOTHING, 3)]),
            END,
        ]
        self.assertEqual(state_behind(grammar, [("left", "a", 1), ("left", "a", "x"), ("right", "a", None)]), 3)
        self.assertEqual(state_behind(grammar, [("left", "a", 1), ("left", "b", None), ("left", "a", 0)]), 1)
        self.refused([("left", "a", 1), ("left", "a", 1)], 1, grammar)
        self.refused([("left", "a", 1), ("left", "a", "x"), ("left", "a", None)], 2, grammar)

    def test_what_is_handed_in_stays(self):
        for talk, state in TALKS:
            grammar = asking()
            before = copy.deepcopy(talk)
            for _ in range(3):
                self.assertEqual(state_behind(grammar, talk), state)
                self.assertIs(is_whole(grammar, talk), state == 2)
            self.assertEqual(talk, before)
            self.assertEqual(grammar, asking())

    def test_refused_things_stay(self):
        grammar = asking()
        talk = [ASK, BACK, None]
        for _ in range(3):
            self.refused(talk, 2, grammar)
        self.assertEqual(talk, [ASK, BACK, None])
        self.assertEqual(grammar, asking())

    def test_nothing_is_kept(self):
        grammar = asking()
        talk = [ASK]
        self.assertEqual(state_behind(grammar, talk), 1)
        talk.append(YES)
        self.assertEqual(state_behind(grammar, talk), 0)
        talk.append(YES)
        self.refused(talk, 2, grammar)
        talk.pop()
        self.assertEqual(state_behind(grammar, talk), 0)
        grammar[1][1][0] = ("yes", ("number", 0, 9), 2)
        self.assertEqual(state_behind(grammar, talk), 2)
        self.assertIs(is_whole(grammar, talk), True)
        grammar[2] = ("left", [("go", NOTHING, 0)])
        self.assertIs(is_whole(grammar, talk), False)


if __name__ == "__main__":
    unittest.main()
