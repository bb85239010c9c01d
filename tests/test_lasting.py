"""Points [27] and [28], and point [3] as far as it speaks of talks that are cut off and gone on."""

import copy
import itertools
import unittest

from tests.drawn import chance_of, damaged, drawn_grammar, drawn_message, drawn_pieces, drawn_talk
from tests.expected import expected_wires, lists_in, values_of
from wireparley.errors import Broken, NoName, NoTalk
from wireparley.lasting import Lasting, judged
from wireparley.sides import Side
from wireparley.talks import state_behind

NOTHING = ("nothing",)
END = ("end",)
BIT = ("number", 0, 1)
SIDES = ["left", "right"]
OTHER = {"left": "right", "right": "left"}


def asking():
    return [
        ("left", [("ask", ("text", 9), 1), ("add", ("list", BIT, 3), 0), ("go", NOTHING, 2)]),
        ("right", [("yes", ("number", 0, 300), 0), ("no", NOTHING, 0), ("more", ("list", BIT, 3), 1)]),
        END,
    ]


ASK = ("left", "ask", "how")
ASK_BYTES = [0, 3, 104, 111, 119]
ADD = ("left", "add", [1])
ADD_BYTES = [1, 1, 1]
YES = ("right", "yes", 258)
NO = ("right", "no", None)
MORE = ("right", "more", [1, 0])
GO = ("left", "go", None)


class JudgedTest(unittest.TestCase):

    def judge(self, g, messages, expected):
        told = judged(g, messages)
        self.assertEqual(told, expected)
        self.assertEqual([type(told), *[type(part) for part in told]], [tuple, *[type(part) for part in expected]])

    def test_the_empty_list(self):
        self.judge(asking(), [], ("turn", "left"))
        self.judge(asking()[1:2] * 2, [], ("turn", "right"))
        self.judge([END], [], ("over",))

    def test_turns(self):
        talk = [ADD, ASK, MORE, MORE, YES, ASK, NO, GO]
        sides = ["left", "left", "right", "right", "right", "left", "right", "left"]
        for length, side in enumerate(sides):
            self.judge(asking(), talk[:length], ("turn", side))
        self.judge(asking(), talk, ("over",))

    def test_behind_an_end(self):
        self.judge(asking(), [GO, GO], ("broke", 1, "left"))
        self.judge(asking(), [GO, NO], ("broke", 1, "right"))
        self.judge(asking(), [GO, NO, GO], ("broke", 1, "right"))
        self.judge([END], [ASK], ("broke", 0, "left"))

    def test_broken_at_each_place(self):
        talk = [ADD, ASK, MORE, YES, ASK, NO, GO]
        for at, message in enumerate(talk):
            side, name, value = message
            for bad in [
                (OTHER[side], name, value), (side, "tell", value), (side, name, [2]), (side, name, "more than nine"),
                (side, "", value), (OTHER[side], "no" if side == "left" else "go", None),
            ]:
                for behind in [[], talk[at:], [NO, GO], [bad]]:
                    self.judge(asking(), talk[:at] + [bad] + behind, ("broke", at, bad[0]))

    def test_who_said_it_not_whose_turn_it_was(self):
        self.judge(asking(), [NO], ("broke", 0, "right"))
        self.judge(asking(), [ASK, ASK], ("broke", 1, "left"))
        self.judge(asking(), [ASK, ("right", "yes", 301)], ("broke", 1, "right"))
        self.judge(asking(), [("left", "yes", 7)], ("broke", 0, "left"))

    def test_drawn(self):
        chance = chance_of(27)
        seen = {}
        for _ in range(300):
            g = drawn_grammar(chance, chance.choice([1, 2, 4, 30]))
            talk = drawn_talk(chance, g, 10)
            state = g[state_behind(g, talk)]
            expected = ("over",) if state == END else ("turn", state[0])
            self.judge(g, talk, expected)
            seen[expected] = seen.get(expected, 0) + 1
            if talk:
                at = chance.randrange(len(talk))
                side, name, value = talk[at]
                bad = (OTHER[side], name, value)
                self.judge(g, talk[:at] + [bad] + talk[at + 1:], ("broke", at, OTHER[side]))
        self.assertEqual(sorted(seen), [("over",), ("turn", "left"), ("turn", "right")])
        self.assertGreater(min(seen.values()), 20)

    def test_what_is_handed_in_stays(self):
        g, talk = asking(), [ASK, copy.deepcopy(MORE), NO, NO]
        self.judge(g, talk, ("broke", 3, "right"))
        self.judge(g, talk[:3], ("turn", "left"))
        self.judge(g, talk, ("broke", 3, "right"))
        self.assertEqual((g, talk), (asking(), [ASK, MORE, NO, NO]))


class LastingTest(unittest.TestCase):

    def no_name(self, lasting, tickets):
        for ticket in tickets:
            before = (lasting.state(), lasting.waiting(), lasting.ticket())
            with self.assertRaises(NoName):
                lasting.said_behind(ticket)
            self.assertEqual((lasting.state(), lasting.waiting(), lasting.ticket()), before)

    def broken(self, lasting, piece, at, of):
        with self.assertRaises(Broken) as caught:
            lasting.take(piece)
        self.assertEqual((caught.exception.at, caught.exception.side), (at, of))

    def test_it_is_a_side(self):
        self.assertIsInstance(Lasting(asking(), "left"), Side)

    def test_in_turn(self):
        left, right = Lasting(asking(), "left"), Lasting(asking(), "right")
        self.assertEqual((left.state(), left.ticket(), right.state(), right.ticket()), (0, 0, 0, 0))
        said = left.say("ask", "how")
        self.assertEqual(said, ASK_BYTES)
        self.assertEqual((left.state(), right.take(said), right.state()), (1, [ASK], 1))
        self.assertEqual((left.ticket(), right.ticket()), (0, 5))
        self.assertEqual(left.take(right.say("yes", 258)), [YES])
        self.assertEqual((left.ticket(), right.ticket()), (3, 5))
        self.assertEqual(right.take(left.say("go", None)), [GO])
        self.assertEqual((left.state(), right.state()), (2, 2))
        self.assertEqual((left.ticket(), right.ticket()), (3, 6))
        self.assertIs(type(left.ticket()), int)

    def test_as_a_side_in_all_that_it_says_and_takes(self):
        chance, seen = chance_of(28), {"said": 0, "refused": 0, "taken": 0, "broken": 0}
        for _ in range(150):
            g = drawn_grammar(chance, chance.choice([1, 2, 4, 30]))
            for name in SIDES:
                wire = expected_wires(g, drawn_talk(chance, g, 15))[SIDES.index(OTHER[name])]
                if chance.random() < 0.4:
                    wire = damaged(chance, wire)
                lasting, side = Lasting(g, name), Side(g, name)
                for piece in [part for piece in drawn_pieces(chance, wire) for part in [piece, []]]:
                    word = chance.choice([*self.words(g, side.state(), name), ("tell", NOTHING, 0)])
                    value = chance.choice(values_of(word[1]))
                    self.alike(seen, "said", lambda one: one.say(word[0], value), lasting, side)
                    self.alike(seen, "taken", lambda one: one.take(list(piece)), lasting, side)
                    self.assertEqual(lasting.state(), side.state())
                    self.assertEqual(lasting.waiting(), side.waiting())
        self.assertGreater(min(seen.values()), 50)

    def words(self, g, state, side):
        return g[state][1] if g[state][0] == side else []

    def alike(self, seen, what, act, lasting, side):
        told = []
        for one in [lasting, side]:
            try:
                told.append(act(one))
            except NoTalk as error:
                told.append(("refused", error.at))
            except Broken as error:
                told.append(("broken", error.at, error.side))
        self.assertEqual(told[0], told[1])
        seen[told[0][0] if isinstance(told[0], tuple) else what] += 1

    def test_tickets_count_bytes_that_wait(self):
        right = Lasting(asking(), "right")
        for ticket, byte in enumerate([0, 3, 104, 111, 119, 7, 7], start=1):
            right.take([byte])
            self.assertEqual(right.ticket(), ticket)
        self.assertEqual(right.take([]), [])
        self.assertEqual((right.ticket(), right.waiting()), (7, 2))
        left = Lasting(asking(), "left")
        self.assertEqual(left.take([1, 1]), [])
        self.assertEqual(left.ticket(), 2)
        left.say("ask", "")
        self.assertEqual(left.take([]), [NO])
        self.assertEqual(left.ticket(), 2)

    def test_what_is_said_is_no_part_of_the_ticket(self):
        left = Lasting(asking(), "left")
        left.say("add", [1])
        left.say("ask", "how")
        self.assertEqual(left.ticket(), 0)
        left.said_behind(5)
        self.assertEqual(left.ticket(), 0)

    def test_what_was_said_behind(self):
        wire = ADD_BYTES + ASK_BYTES
        for ticket in range(len(wire) + 1):
            left = Lasting(asking(), "left")
            left.say("add", [1])
            left.say("ask", "how")
            told = left.said_behind(ticket)
            self.assertEqual(told, wire[ticket:])
            self.assertIs(type(told), list)

    def test_tickets_one_behind_the_other(self):
        left = Lasting(asking(), "left")
        self.assertEqual(left.said_behind(0), [])
        left.say("add", [1])
        self.assertEqual(left.said_behind(0), ADD_BYTES)
        self.assertEqual(left.said_behind(2), [1])
        self.assertEqual(left.said_behind(2), [1])
        self.no_name(left, [1, 0, -1, 4])
        self.assertEqual(left.said_behind(3), [])
        self.no_name(left, [2, 4])
        left.say("ask", "how")
        self.assertEqual(left.said_behind(3), ASK_BYTES)
        self.assertEqual(left.said_behind(8), [])
        self.no_name(left, [3, 7, 9])

    def test_before_anything_was_said(self):
        for side in SIDES:
            lasting = Lasting(asking(), side)
            self.no_name(lasting, [1, 2, 10 ** 99, -1, -(10 ** 99)])
            self.assertEqual(lasting.said_behind(0), [])

    def test_a_refused_one_changes_nothing(self):
        left = Lasting(asking(), "left")
        left.say("ask", "how")
        self.no_name(left, [6, 100, -1])
        self.assertEqual(left.said_behind(0), ASK_BYTES)
        self.assertEqual(left.said_behind(3), ASK_BYTES[3:])
        self.no_name(left, [2, 6, 0])
        # Neither the least nor the most has moved.
        self.assertEqual(left.said_behind(3), ASK_BYTES[3:])
        self.assertEqual(left.take([1]), [NO])
        left.say("add", [1])
        self.no_name(left, [9])
        self.assertEqual(left.said_behind(8), [])

    def test_a_refused_saying_is_not_kept(self):
        left = Lasting(asking(), "left")
        left.say("add", [1])
        for name, value in [("add", [2]), ("tell", None), ("yes", 7)]:
            with self.assertRaises(NoTalk) as caught:
                left.say(name, value)
            self.assertEqual(caught.exception.at, 0)
        self.assertEqual(left.said_behind(0), ADD_BYTES)
        self.no_name(left, [4])
        right = Lasting(asking(), "right")
        with self.assertRaises(NoTalk):
            right.say("no", None)
        self.assertEqual(right.said_behind(0), [])

    def test_a_piece_at_which_it_was_broken_is_not_counted(self):
        right = Lasting(asking(), "right")
        self.assertEqual(right.take([1, 1]), [])
        self.broken(right, [1, 0, 3, 97, 127], 6, "left")
        self.assertEqual(right.ticket(), 2)
        for piece in [[], [0], [97] * 20, []]:
            self.broken(right, piece, 6, "left")
            self.assertEqual(right.ticket(), 2)

    def test_who_was_broken_stays_so(self):
        left = Lasting(asking(), "left")
        left.say("add", [1])
        left.say("ask", "how")
        self.assertEqual(left.take([2, 1]), [])
        self.broken(left, [1, 9], 3, "right")
        self.assertEqual(left.ticket(), 2)
        # What was lost comes anew behind the ticket: it is of no help.
        self.broken(left, [1, 1], 3, "right")
        self.assertEqual(left.said_behind(0), ADD_BYTES + ASK_BYTES)
        self.assertEqual(left.said_behind(4), ASK_BYTES[1:])
        self.no_name(left, [3, 9, 0])
        self.assertEqual(left.said_behind(8), [])
        self.assertEqual(left.ticket(), 2)
        self.broken(left, [], 3, "right")

    def test_broken_by_what_waited(self):
        left = Lasting(asking(), "left")
        self.assertEqual(left.take([1, 200]), [])
        left.say("ask", "")
        self.assertEqual(left.take([]), [NO])
        left.say("ask", "")
        self.assertEqual(left.ticket(), 2)
        self.broken(left, [0, 0], 1, "right")
        self.assertEqual(left.ticket(), 2)
        self.assertEqual(left.said_behind(1), [0, 0, 0])

    def test_lost_at_any_place(self):
        """Each of the talk's messages under way is cut off behind so many bytes, and sent anew."""
        talk = [ADD, ASK, MORE, YES, ASK, NO, GO]
        for lost in itertools.product([0, 1, 2, 9], repeat=4):
            sides = {side: Lasting(asking(), side) for side in SIDES}
            heard, turn = [], 0
            for side, name, value in talk:
                wire = sides[side].say(name, value)
                if name in ["ask", "more", "go"]:
                    cut = lost[turn]
                    turn += 1
                    heard += sides[OTHER[side]].take(wire[:cut])
                    wire = sides[side].said_behind(sides[OTHER[side]].ticket())
                    self.assertEqual(sides[OTHER[side]].said_behind(sides[side].ticket()), [])
                heard += sides[OTHER[side]].take(wire)
            self.assertEqual(heard, talk)
            self.assertEqual([sides[side].state() for side in SIDES], [2, 2])

    def test_drawn_losses(self):
        """Both say and take in any order, and all that is under way is lost again and again: both tell the talk."""
        chance, losses = chance_of(280), 0
        for _ in range(200):
            g = drawn_grammar(chance, chance.choice([1, 2, 3, 5, 30]))
            sides = {side: Lasting(g, side) for side in SIDES}
            wires, talks = {"left": [], "right": []}, {"left": [], "right": []}
            for step in range(80):
                side = chance.choice(SIDES)
                state = g[sides[side].state()]
                if state[0] == side and chance.random() < 0.5 and step < 50:
                    message, _ = drawn_message(chance, state)
                    wires[side] += sides[side].say(*message[1:])
                    talks[side].append(message)
                elif chance.random() < 0.15:
                    losses += 1
                    for one in SIDES:
                        wires[one] = sides[one].said_behind(sides[OTHER[one]].ticket())
                else:
                    n = chance.randrange(len(wires[OTHER[side]]) + 1) if step < 60 else len(wires[OTHER[side]])
                    talks[side] += sides[side].take(wires[OTHER[side]][:n])
                    wires[OTHER[side]] = wires[OTHER[side]][n:]
                shorter, longer = sorted(talks.values(), key=len)
                self.assertEqual(longer[:len(shorter)], shorter)
            for side in SIDES:
                talks[side] += sides[side].take(wires[OTHER[side]])
            self.assertEqual(talks["left"], talks["right"])
            self.assertEqual(sides["left"].state(), sides["right"].state())
            self.assertEqual([sides[side].waiting() for side in SIDES], [0, 0])
            left, right = expected_wires(g, talks["left"])
            self.assertEqual([sides[side].ticket() for side in SIDES], [len(right), len(left)])
        self.assertGreater(losses, 1000)

    def test_nothing_is_kept(self):
        g = asking()
        left = Lasting(g, "left")
        g[0][1].clear()
        g[1] = END
        g.pop()
        bits = [1, 0]
        said = left.say("add", bits)
        bits.append(1)
        said.append(99)
        said[0] = 7
        self.assertEqual(left.said_behind(0), [1, 2, 1, 0])
        piece = [2, 2, 1]
        self.assertEqual(left.take(piece), [])
        self.assertEqual(piece, [2, 2, 1])
        piece.clear()
        self.assertEqual(left.ticket(), 3)
        told = left.said_behind(1)
        told.clear()
        self.assertEqual(left.said_behind(1), [2, 1, 0])
        self.assertEqual(left.say("ask", "how"), ASK_BYTES)
        self.assertEqual(left.take([0]), [MORE])

    def test_the_grammar_stays(self):
        g = asking()
        left = Lasting(g, "left")
        left.say("ask", "how")
        left.take([2, 2, 1, 0])
        left.said_behind(2)
        self.broken(left, [9], 4, "right")
        self.assertEqual(g, asking())

    def test_each_told_list_is_new(self):
        g, told = asking(), []
        for _ in range(2):
            left = Lasting(g, "left")
            told += [left.said_behind(0), left.said_behind(0), left.say("add", [1]), left.say("add", [1])]
            told += [left.said_behind(0), left.said_behind(0), left.said_behind(6), left.said_behind(6)]
            told += [left.say("ask", "how"), left.take([2, 1, 1]), left.take([2, 1, 1]), left.take([])]
        lists = lists_in(told)[1:]
        self.assertEqual(len({id(part) for part in lists}), len(lists))
        for part in lists:
            part.append("more")
        self.assertEqual(left.said_behind(6), ASK_BYTES)
        self.assertEqual(left.take([2, 1, 1]), [("right", "more", [1])])

    def test_they_are_their_own(self):
        g = asking()
        first, second = Lasting(g, "left"), Lasting(g, "left")
        first.say("ask", "how")
        first.take([2])
        self.assertEqual((second.state(), second.ticket(), second.said_behind(0)), (0, 0, []))
        self.assertEqual(first.said_behind(0), ASK_BYTES)


if __name__ == "__main__":
    unittest.main()
