"""Points [14] and [15], and point [3] as far as it speaks of two sides."""

import copy
import unittest

from tests.drawn import chance_of, damaged, drawn_grammar, drawn_message, drawn_pieces, drawn_talk
from tests.expected import KnownWires, expected_wires, lists_in, values_of
from tests.odd import Sour, odd_things
from wireparley.errors import Broken, NoRow, NoTalk, ParleyError
from wireparley.sides import Parley, Side
from wireparley.talks import state_behind
from wireparley.wires import wires_of

NOTHING = ("nothing",)
END = ("end",)
BIT = ("number", 0, 1)
SIDES = ["left", "right"]
OTHER = {"left": "right", "right": "left"}


def asking():
    return [
        ("left", [("ask", ("text", 9), 1), ("add", ("list", BIT, 3), 0), ("go", NOTHING, 2)]),
        ("right", [("yes", ("number", 0, 300), 0), ("no", NOTHING, 0), ("more", ("list", BIT, 3), 1)]),
        END,
    ]


ASK = ("left", "ask", "how")
ASK_BYTES = [0, 3, 104, 111, 119]
ADD = ("left", "add", [1])
YES = ("right", "yes", 258)
NO = ("right", "no", None)
MORE = ("right", "more", [1, 0])
GO = ("left", "go", None)


class SideModel:
    """A side by the words of point [14], over all rows of bytes of a grammar of few values."""

    def __init__(self, known, side):
        self.known, self.g, self.side = known, known.g, side
        self.state, self.wire, self.place = 0, [], 0

    def take(self, piece):
        self.wire += piece
        told = []
        while self.g[self.state][0] == OTHER[self.side]:
            found = self.known.first_message(self.state, self.wire, self.place)
            if found is None:
                break
            if found[0] == "broken":
                return ("broken", found[1], OTHER[self.side])
            message, self.state = self.known.whole[self.state][tuple(self.wire[self.place:found[1]])]
            told.append(message)
            self.place = found[1]
        return told


class SideTest(unittest.TestCase):

    def no_talk(self, side, name, value):
        before = (side.state(), side.waiting())
        with self.assertRaises(NoTalk) as caught:
            side.say(name, value)
        self.assertEqual(caught.exception.at, 0)
        self.assertIs(type(caught.exception.at), int)
        self.assertEqual((side.state(), side.waiting()), before)

    def broken(self, side, piece, at, of):
        with self.assertRaises(Broken) as caught:
            side.take(piece)
        self.assertEqual((caught.exception.at, caught.exception.side), (at, of))
        self.assertIs(type(caught.exception.at), int)

    def standing(self, side, state, waiting):
        self.assertEqual((side.state(), side.waiting()), (state, waiting))
        self.assertEqual((type(side.state()), type(side.waiting())), (int, int))

    def test_first_it_stands_in_0(self):
        for name in SIDES:
            for g in [asking(), [END], [("right", [("on", NOTHING, 0)])]]:
                self.standing(Side(g, name), 0, 0)

    def test_in_turn(self):
        left, right = Side(asking(), "left"), Side(asking(), "right")
        said = left.say("ask", "how")
        self.assertEqual(said, ASK_BYTES)
        self.assertIs(type(said), list)
        self.standing(left, 1, 0)
        self.assertEqual(right.take(said), [ASK])
        self.standing(right, 1, 0)
        said = right.say("more", [1, 0])
        self.assertEqual(said, [2, 2, 1, 0])
        self.standing(right, 1, 0)
        self.assertEqual(left.take(said), [MORE])
        self.standing(left, 1, 0)
        self.assertEqual(right.say("yes", 258), [0, 1, 2])
        self.standing(right, 0, 0)
        self.assertEqual(left.take([0, 1, 2]), [YES])
        self.standing(left, 0, 0)
        self.assertEqual(left.say("go", None), [2])
        self.assertEqual(right.take([2]), [GO])
        self.standing(left, 2, 0)
        self.standing(right, 2, 0)

    def test_pieces(self):
        right = Side(asking(), "right")
        for byte, waiting in [(0, 1), (3, 2), (104, 3), (111, 4)]:
            self.assertEqual(right.take([byte]), [])
            self.standing(right, 0, waiting)
        self.assertEqual(right.take([]), [])
        self.standing(right, 0, 4)
        self.assertEqual(right.take([119]), [ASK])
        self.standing(right, 1, 0)

    def test_several_at_once(self):
        right = Side(asking(), "right")
        self.assertEqual(right.take([1, 1, 1, 1, 1, 1] + ASK_BYTES[:3]), [ADD, ADD])
        self.standing(right, 0, 3)
        self.assertEqual(right.take(ASK_BYTES[3:] + [2, 2]), [ASK])
        self.standing(right, 1, 2)
        left = Side(asking(), "left")
        self.assertEqual(left.say("ask", "how"), ASK_BYTES)
        self.assertEqual(left.take([2, 2, 1, 0, 2, 0, 1]), [MORE, ("right", "more", []), NO])
        self.standing(left, 0, 0)

    def test_saying_ahead(self):
        left = Side(asking(), "left")
        self.assertEqual(left.say("add", [1]), [1, 1, 1])
        self.assertEqual(left.say("add", []), [1, 0])
        self.standing(left, 0, 0)
        self.assertEqual(left.say("ask", ""), [0, 0])
        self.standing(left, 1, 0)

    def test_bytes_that_come_in_its_own_state_wait(self):
        left = Side(asking(), "left")
        self.assertEqual(left.take([2, 2]), [])
        self.assertEqual(left.take([1, 0, 0]), [])
        self.standing(left, 0, 5)
        self.assertEqual(left.take([]), [])
        self.assertEqual(left.say("add", [1]), [1, 1, 1])
        self.assertEqual(left.take([]), [])
        self.standing(left, 0, 5)
        self.assertEqual(left.say("ask", "how"), ASK_BYTES)
        self.standing(left, 1, 5)
        self.assertEqual(left.take([]), [MORE])
        self.standing(left, 1, 1)
        self.assertEqual(left.take([1, 2, 1, 1]), [YES])
        self.standing(left, 0, 2)
        self.assertEqual(left.take([]), [])
        self.assertEqual(left.say("ask", "how"), ASK_BYTES)
        self.assertEqual(left.take([1]), [NO])
        self.standing(left, 0, 2)

    def test_they_are_read_with_what_comes(self):
        left = Side(asking(), "left")
        self.assertEqual(left.take([2, 2, 1]), [])
        self.assertEqual(left.say("ask", "how"), ASK_BYTES)
        self.assertEqual(left.take([0, 1]), [MORE, NO])
        self.standing(left, 0, 0)

    def test_bytes_behind_an_end_wait(self):
        right = Side(asking(), "right")
        self.assertEqual(right.take([2, 255, 0]), [GO])
        self.standing(right, 2, 2)
        self.assertEqual(right.take([7]), [])
        self.assertEqual(right.take([]), [])
        self.standing(right, 2, 3)
        for name in SIDES:
            side = Side([END], name)
            self.assertEqual(side.take([9, 9]), [])
            self.standing(side, 0, 2)

    def test_what_it_may_not_say(self):
        left = Side(asking(), "left")
        for name, value in [
            ("yes", 7), ("no", None), ("tell", None), ("", None), ("Go", None), ("ask", None),
            ("ask", "more than nine"), ("ask", "%"), ("go", 0), ("go", "how"), ("add", [1, 0, 1, 0]), ("add", [2]), ("add", (1,)), ("left", None),
            ("add", [True]), ("ask", ["a"]),
        ]:
            self.no_talk(left, name, value)
        self.standing(left, 0, 0)
        self.assertEqual(left.say("ask", "how"), ASK_BYTES)

    def test_in_the_other_sides_state(self):
        right = Side(asking(), "right")
        self.no_talk(right, "yes", 7)
        self.no_talk(right, "ask", "how")
        self.no_talk(right, "go", None)
        self.assertEqual(right.take([0, 3]), [])
        self.no_talk(right, "no", None)
        left = Side(asking(), "left")
        left.say("ask", "how")
        for name, value in [("yes", 7), ("no", None), ("ask", "how"), ("go", None)]:
            self.no_talk(left, name, value)
        self.assertEqual(left.take([1]), [NO])

    def test_in_an_end(self):
        left = Side(asking(), "left")
        left.say("go", None)
        for name, value in [("go", None), ("ask", "how"), ("no", None), ("end", None)]:
            self.no_talk(left, name, value)
        for name in SIDES:
            self.no_talk(Side([END], name), "end", None)

    def test_whatever_value(self):
        for k, thing in enumerate(odd_things()):
            with self.subTest(k):
                left = Side(asking(), "left")
                for value in [thing, [thing], (thing, thing)]:
                    for name in ["ask", "add", "go", "yes"]:
                        self.no_talk(left, name, value)
                self.assertEqual(left.say("go", None), [2])

    def test_a_refused_saying_changes_nothing(self):
        left = Side(asking(), "left")
        left.take([0, 1])
        self.no_talk(left, "ask", 5)
        self.standing(left, 0, 2)
        left.say("ask", "how")
        self.no_talk(left, "ask", "how")
        self.assertEqual(left.take([2]), [YES])

    def test_broken(self):
        right = Side(asking(), "right")
        self.broken(right, [3], 0, "left")
        right = Side(asking(), "right")
        self.assertEqual(right.take([1, 1, 1, 0, 3]), [ADD])
        self.broken(right, [97, 37, 97], 6, "left")
        for piece in [[], [0], [97] * 20, []]:
            self.broken(right, piece, 6, "left")
        left = Side(asking(), "left")
        left.say("ask", "")
        self.broken(left, [2, 1, 1, 0, 1, 45], 5, "right")
        for piece in [[], [0], [97] * 20, []]:
            self.broken(left, piece, 5, "right")

    def test_broken_from_the_wires_beginning(self):
        left = Side(asking(), "left")
        for _ in range(10):
            self.assertEqual(left.take([0, 1]), [])
            left.say("ask", "")
            self.assertEqual(left.take([2]), [YES])
        left.say("ask", "")
        self.broken(left, [2, 3, 0, 0, 2], 34, "right")

    def test_broken_bytes_wait_for_the_state(self):
        left = Side(asking(), "left")
        self.assertEqual(left.take([1, 200]), [])
        self.assertEqual(left.take([]), [])
        left.say("ask", "")
        self.assertEqual(left.take([]), [NO])
        self.assertEqual(left.take([]), [])
        self.standing(left, 0, 1)
        left.say("ask", "")
        self.broken(left, [], 1, "right")
        self.broken(left, [], 1, "right")

    def test_it_still_tells_numbers_when_broken(self):
        right = Side(asking(), "right")
        self.broken(right, [1, 0, 9], 2, "left")
        self.assertEqual((type(right.state()), type(right.waiting())), (int, int))
        with self.assertRaises(ParleyError):
            right.say("no", None)

    def test_drawn(self):
        chance = chance_of(14)
        broke = 0
        for _ in range(150):
            g = drawn_grammar(chance, chance.choice([1, 2, 4, 30]))
            known = KnownWires(g)
            for name in SIDES * 3:
                left, right = expected_wires(g, drawn_talk(chance, g, 15))
                wire = right if name == "left" else left
                if chance.random() < 0.4:
                    wire = damaged(chance, wire)
                broke += self.follow(chance, g, known, name, drawn_pieces(chance, wire))
        self.assertGreater(broke, 30)

    def follow(self, chance, g, known, name, pieces):
        side, model = Side(g, name), SideModel(known, name)
        for piece in [part for piece in pieces for part in [piece, []]]:
            if g[model.state][0] == name and chance.random() < 0.7:
                message, behind = drawn_message(chance, g[model.state])
                place = [word[0] for word in g[model.state][1]].index(message[1])
                row = side.say(message[1], message[2])
                self.assertEqual(known.whole[model.state][tuple(row)], (message, behind))
                self.assertEqual(row[0], place)
                model.state = behind
            expected = model.take(piece)
            if isinstance(expected, tuple):
                for again in [piece, [], [0]]:
                    self.broken(side, again, expected[1], expected[2])
                return True
            self.assertEqual(side.take(list(piece)), expected)
            self.standing(side, model.state, len(model.wire) - model.place)
        return False

    def test_nothing_is_kept(self):
        g = asking()
        left = Side(g, "left")
        g[0][1].clear()
        g[1] = END
        g.pop()
        bits = [1, 0]
        said = left.say("add", bits)
        self.assertEqual(bits, [1, 0])
        bits.append(0)
        self.assertEqual(said, [1, 2, 1, 0])
        said.clear()
        piece = [2, 2, 1]
        self.assertEqual(left.take(piece), [])
        self.assertEqual(piece, [2, 2, 1])
        piece[0] = 255
        piece.append(255)
        self.standing(left, 0, 3)
        self.assertEqual(left.say("ask", "how"), ASK_BYTES)
        self.assertEqual(left.take([0, 2, 0]), [MORE, ("right", "more", [])])
        self.standing(left, 1, 0)

    def test_the_grammar_stays(self):
        g = asking()
        left = Side(g, "left")
        left.say("ask", "how")
        left.take([2, 2, 1, 0])
        self.no_talk(left, "ask", "how")
        self.broken(left, [9], 4, "right")
        self.assertEqual(g, asking())

    def test_each_told_list_is_new(self):
        g, told = asking(), []
        for _ in range(2):
            left = Side(g, "left")
            told += [left.say("add", [1]), left.say("add", [1]), left.say("ask", "how")]
            told += [left.take([2, 1, 1]), left.take([2, 1, 1]), left.take([])]
        lists = lists_in(told)[1:]
        self.assertEqual(len({id(part) for part in lists}), len(lists))
        for part in lists:
            part.append("more")
        self.standing(left, 1, 0)
        self.assertEqual(left.take([2, 1, 1]), [("right", "more", [1])])


class ParleyTest(unittest.TestCase):

    def seen(self, parley):
        return (parley.may(), parley.is_over(), parley.states(), parley.lying())

    def no_row(self, parley, act):
        before = self.seen(parley)
        with self.assertRaises(NoRow):
            parley.do(act)
        self.assertEqual(self.seen(parley), before)

    def no_talk(self, parley, act):
        before = self.seen(parley)
        with self.assertRaises(NoTalk) as caught:
            parley.do(act)
        self.assertEqual(caught.exception.at, 0)
        self.assertEqual(self.seen(parley), before)

    def test_step_by_step(self):
        parley = Parley(asking())
        self.assertEqual(self.seen(parley), ([("say", "left")], False, (0, 0), (0, 0)))
        for act, told, seen in [
            (("say", "left", "add", [1]), [1, 1, 1],
             ([("say", "left"), ("take", "right")], False, (0, 0), (3, 0))),
            (("say", "left", "ask", "how"), ASK_BYTES, ([("take", "right")], False, (1, 0), (8, 0))),
            (("take", "right", 1), [], ([("take", "right")], False, (1, 0), (7, 0))),
            (("take", "right", 3), [ADD], ([("take", "right")], False, (1, 0), (4, 0))),
            (("take", "right", 4), [ASK], ([("say", "right")], False, (1, 1), (0, 0))),
            (("say", "right", "more", [1, 0]), [2, 2, 1, 0],
             ([("say", "right"), ("take", "left")], False, (1, 1), (0, 4))),
            (("say", "right", "no", None), [1], ([("take", "left")], False, (1, 0), (0, 5))),
            (("take", "left", 5), [MORE, NO], ([("say", "left")], False, (0, 0), (0, 0))),
            (("say", "left", "go", None), [2], ([("take", "right")], False, (2, 0), (1, 0))),
            (("take", "right", 1), [GO], ([], True, (2, 2), (0, 0))),
        ]:
            self.assertEqual(parley.do(act), told)
            self.assertEqual(self.seen(parley), seen)

    def test_kinds(self):
        parley = Parley(asking())
        self.assertIs(type(parley.do(("say", "left", "ask", "how"))), list)
        self.assertIs(type(parley.do(("take", "right", 2))), list)
        self.assertIs(type(parley.may()), list)
        for act in parley.may():
            self.assertIs(type(act), tuple)
        self.assertIs(parley.is_over(), False)
        self.assertIs(Parley([END]).is_over(), True)
        for told in [parley.states(), parley.lying()]:
            self.assertIs(type(told), tuple)
            self.assertEqual([type(number) for number in told], [int, int])

    def test_the_order_of_what_may_be_done(self):
        both = [("left", [("a", NOTHING, 0), ("b", NOTHING, 1)]), ("right", [("c", NOTHING, 1), ("d", NOTHING, 0)])]
        parley = Parley(both)
        parley.do(("say", "left", "b", None))
        parley.do(("take", "right", 1))
        parley.do(("say", "right", "c", None))
        self.assertEqual(parley.may(), [("say", "right"), ("take", "left")])
        parley.do(("say", "right", "d", None))
        self.assertEqual(parley.may(), [("take", "left")])
        parley.do(("take", "left", 2))
        parley.do(("say", "left", "a", None))
        self.assertEqual(parley.may(), [("say", "left"), ("take", "right")])
        self.assertEqual(parley.lying(), (1, 0))

    def test_an_end_at_once(self):
        for g in [[END], [END, ("left", [("a", NOTHING, 0)])]]:
            parley = Parley(g)
            self.assertEqual(self.seen(parley), ([], True, (0, 0), (0, 0)))
            for side in SIDES:
                self.no_talk(parley, ("say", side, "a", None))
                self.no_row(parley, ("take", side, 1))
                self.no_row(parley, ("take", side, 0))

    def test_it_is_not_over_before_all_is_taken(self):
        g = [("right", [("a", ("text", 2), 0), ("b", ("text", 2), 1)]), END]
        parley = Parley(g)
        parley.do(("say", "right", "a", "x"))
        parley.do(("say", "right", "b", "yz"))
        self.assertEqual(parley.states(), (0, 1))
        told = []
        for lying in range(7, 0, -1):
            self.assertEqual(self.seen(parley)[:2], ([("take", "left")], False))
            self.assertEqual(parley.lying(), (0, lying))
            told += parley.do(("take", "left", 1))
        self.assertEqual(told, [("right", "a", "x"), ("right", "b", "yz")])
        self.assertEqual(self.seen(parley), ([], True, (1, 1), (0, 0)))

    def test_takings_that_are_none(self):
        parley = Parley(asking())
        for side in SIDES:
            for n in [-1, 0, 1, 2, 10 ** 99, -(10 ** 99)]:
                self.no_row(parley, ("take", side, n))
        parley.do(("say", "left", "ask", "how"))
        for n in [-5, -1, 0, 6, 7, 100, True, False, None, "1", 1.0, [1], (1,), Sour()]:
            self.no_row(parley, ("take", "right", n))
        for n in [1, 5, 0, -1]:
            self.no_row(parley, ("take", "left", n))
        self.assertEqual(parley.do(("take", "right", 5)), [ASK])
        self.no_row(parley, ("take", "right", 1))

    def test_sayings_that_are_none(self):
        parley = Parley(asking())
        for act in [
            ("say", "right", "yes", 7), ("say", "right", "ask", "how"), ("say", "left", "yes", 7),
            ("say", "left", "tell", None), ("say", "left", "", None), ("say", "left", "ask", None),
            ("say", "left", "add", [2]), ("say", "left", "add", [1] * 4), ("say", "left", "go", 0),
        ]:
            self.no_talk(parley, act)
        parley.do(("say", "left", "ask", "how"))
        self.no_talk(parley, ("say", "left", "ask", "how"))
        self.no_talk(parley, ("say", "right", "no", None))
        parley.do(("take", "right", 4))
        self.no_talk(parley, ("say", "right", "no", None))
        parley.do(("take", "right", 1))
        self.assertEqual(parley.do(("say", "right", "no", None)), [1])
        parley.do(("take", "left", 1))
        parley.do(("say", "left", "go", None))
        parley.do(("take", "right", 1))
        for side in SIDES:
            self.no_talk(parley, ("say", side, "go", None))

    def test_sayings_of_whatever_value(self):
        parley = Parley(asking())
        for k, thing in enumerate(odd_things()):
            with self.subTest(k):
                for name in ["ask", "add", "go", "no"]:
                    self.no_talk(parley, ("say", "left", name, thing))
                    self.no_talk(parley, ("say", "right", name, [thing]))
                # A saying of a name that is no text is a saying still, of a word that is none.
                self.no_talk(parley, ("say", "left", thing, None))

    def test_what_is_no_act(self):
        parley = Parley(asking())
        parley.do(("say", "left", "add", [1]))
        acts = [
            None, True, 0, 1, "", "say", "take", (), [], {}, ("say",), ("take",), ("say", "left"), ("take", "right"),
            ("say", "left", "go"), ("say", "left", "go", None, None), ("take", "right", 1, 1), ("take", 1),
            ["say", "left", "go", None], ["take", "right", 1], ("Say", "left", "go", None),
            ("tell", "left", "go", None),
            ("take", "left", "go", None), ("say", "right", 1), ("", "right", 1), (None, "right", 1), (0, "right", 1),
            ("say", "middle", "go", None), ("say", "", "go", None), ("say", "Left", "go", None), ("take", "both", 1),
            ("say", None, "go", None), ("say", ("left",), "go", None), ("take", ["right"], 1), ("take", 0, 1),
            ("left", "say", "go", None), ("right", "take", 1), "takes", "tak", ("left", "go", None), ("end",),
        ]
        for act in acts:
            with self.subTest(act=act):
                self.no_row(parley, act)
        for k, thing in enumerate(odd_things()):
            with self.subTest(k):
                for act in [thing, (thing, "left", "go", None), ("say", thing, "go", None), (thing, "right", 1),
                            ("take", thing, 1), ("take", "right", thing), (thing, thing, thing, thing), [thing]]:
                    self.no_row(parley, act)
        self.assertEqual(parley.do(("take", "right", 3)), [ADD])

    def test_said_far_ahead(self):
        parley, talk = Parley(asking()), [ADD] * 1500 + [ASK]
        for message in talk:
            parley.do(("say",) + message)
        self.assertEqual(parley.lying(), (4505, 0))
        self.assertEqual(parley.states(), (1, 0))
        self.assertEqual(parley.may(), [("take", "right")])
        told = parley.do(("take", "right", 2000))
        self.assertEqual(told, [ADD] * 666)
        while parley.lying() != (0, 0):
            told += parley.do(("take", "right", 1))
        self.assertEqual(told, talk)
        self.assertEqual(parley.states(), (1, 1))
        for _ in range(400):
            parley.do(("say", "right", "more", [1, 0]))
        parley.do(("say", "right", "no", None))
        self.assertEqual(parley.do(("take", "left", 1601)), [MORE] * 400 + [NO])

    def test_every_order(self):
        """All that may be done, to some depth, with every number of bytes."""
        g = [
            ("left", [("a", BIT, 0), ("b", NOTHING, 1)]),
            ("right", [("a", ("list", NOTHING, 1), 0), ("c", NOTHING, 2)]),
            END,
        ]
        self.visited = self.over = 0
        self.explore(g, Parley(g), {"left": [], "right": []}, 8)
        self.assertGreater(self.visited, 3000)
        self.assertGreater(self.over, 20)

    def explore(self, g, parley, talks, depth):
        self.visited += 1
        self.look(g, parley, talks)
        if parley.is_over():
            self.over += 1
        if depth == 0:
            return
        for kind, side in parley.may():
            if kind == "say":
                number = parley.states()[SIDES.index(side)]
                acts = [("say", side, name, values_of(s)[-1]) for name, s, _ in g[number][1]]
            else:
                acts = [("take", side, n + 1) for n in range(parley.lying()[SIDES.index(OTHER[side])])]
            for act in acts:
                later, both = copy.deepcopy(parley), copy.deepcopy(talks)
                self.act(later, both, act)
                self.explore(g, later, both, depth - 1)

    def act(self, parley, talks, act):
        told = parley.do(act)
        talks[act[1]] += [act[1:]] if act[0] == "say" else told

    def look(self, g, parley, talks):
        """What both sides have said and taken so far is a talk, and all that was said and not taken is under way."""
        states = tuple(state_behind(g, talks[side]) for side in SIDES)
        self.assertEqual(parley.states(), states)
        shorter, longer = sorted(talks.values(), key=len)
        self.assertEqual(longer[:len(shorter)], shorter)
        for side, lying in zip(SIDES, parley.lying()):
            said = wires_of(g, talks[side])[SIDES.index(side)]
            taken = wires_of(g, talks[OTHER[side]])[SIDES.index(side)]
            self.assertGreaterEqual(len(said), len(taken) + lying)
        ends = [g[state] == END for state in states]
        over = all(ends) and talks["left"] == talks["right"] and parley.lying() == (0, 0)
        self.assertIs(parley.is_over(), over)
        expected = [("say", side) for side, state in zip(SIDES, states) if g[state][0] == side]
        expected += [("take", side) for side, lying in zip(SIDES, reversed(parley.lying())) if lying]
        self.assertEqual(parley.may(), expected)
        self.assertTrue(over or expected)

    def test_drawn_orders(self):
        chance = chance_of(15)
        over = 0
        for _ in range(150):
            g = drawn_grammar(chance, chance.choice([1, 2, 3, 5, 30]))
            parley, talks = Parley(g), {"left": [], "right": []}
            for _ in range(60):
                self.look(g, parley, talks)
                if parley.is_over():
                    over += 1
                    break
                self.act(parley, talks, self.drawn_act(chance, g, parley))
            while parley.lying() != (0, 0):
                for side, lying in zip(SIDES, reversed(parley.lying())):
                    if lying:
                        self.act(parley, talks, ("take", side, lying))
            self.look(g, parley, talks)
            self.assertEqual(talks["left"], talks["right"])
        self.assertGreater(over, 20)

    def drawn_act(self, chance, g, parley):
        kind, side = chance.choice(parley.may())
        if kind == "say":
            message, _ = drawn_message(chance, g[parley.states()[SIDES.index(side)]])
            return ("say",) + message
        lying = parley.lying()[SIDES.index(OTHER[side])]
        return ("take", side, chance.choice([1, lying, chance.randint(1, lying)]))

    def test_nothing_is_kept(self):
        g = asking()
        parley = Parley(g)
        g[0][1].clear()
        g[1] = END
        g.pop()
        bits = [1, 0]
        act = ("say", "left", "add", bits)
        said = parley.do(act)
        self.assertEqual(act, ("say", "left", "add", [1, 0]))
        bits[0] = 0
        bits.append(1)
        said[0] = 77
        said.clear()
        parley.may().clear()
        self.assertEqual(parley.may(), [("say", "left"), ("take", "right")])
        self.assertEqual(parley.lying(), (4, 0))
        told = parley.do(("take", "right", 4))
        self.assertEqual(told, [("left", "add", [1, 0])])
        told[0][2].append(1)
        told.append(None)
        self.assertEqual(parley.do(("say", "left", "ask", "how")), ASK_BYTES)
        self.assertEqual(parley.do(("take", "right", 5)), [ASK])
        self.assertEqual(parley.states(), (1, 1))

    def test_the_grammar_stays(self):
        g = asking()
        parley = Parley(g)
        parley.do(("say", "left", "ask", "how"))
        parley.do(("take", "right", 5))
        self.no_row(parley, None)
        self.no_talk(parley, ("say", "left", "go", None))
        self.assertEqual(g, asking())

    def test_each_told_list_is_new(self):
        g, told = asking(), []
        for _ in range(2):
            parley = Parley(g)
            told += [parley.may(), parley.may(), parley.do(("say", "left", "add", [1]))]
            told += [parley.do(("say", "left", "add", [1])), parley.do(("take", "right", 3)), parley.may()]
            told += [parley.do(("take", "right", 1)), parley.do(("take", "right", 2)), parley.may()]
        lists = lists_in(told)[1:]
        self.assertEqual(len({id(part) for part in lists}), len(lists))

    def test_parleys_are_their_own(self):
        g = asking()
        first, second = Parley(g), Parley(g)
        first.do(("say", "left", "ask", "how"))
        self.assertEqual(self.seen(second), ([("say", "left")], False, (0, 0), (0, 0)))
        self.assertEqual(self.seen(second), self.seen(Parley(g)))


if __name__ == "__main__":
    unittest.main()
