"""Point [3] over the whole program: a talk is everywhere the same talk, and what begins none is refused alike."""

import unittest

from tests.drawn import chance_of, damaged, drawn_feeding, drawn_grammar, drawn_talk, near_grammar, relayed_kin
from tests.expected import KnownWires, expected_wires
from wireparley.beside import talks_beside, wires_beside
from wireparley.desk import Desk
from wireparley.errors import Broken, NoTalk
from wireparley.lasting import Lasting, judged
from wireparley.pieces import Reader
from wireparley.relays import Relay, relay_table
from wireparley.sides import Parley, Side
from wireparley.standing import stands_in
from wireparley.talks import is_whole, state_behind
from wireparley.texts import show_grammar, show_value
from wireparley.wires import talk_by, wires_of

NOTHING = ("nothing",)
END = ("end",)
SIDES = ["left", "right"]
OTHER = {"left": "right", "right": "left"}


def asking():
    return [
        ("left", [("ask", ("text", 9), 1), ("add", ("list", ("number", 0, 1), 3), 0), ("go", NOTHING, 2)]),
        ("right", [("yes", ("number", 0, 300), 0), ("no", NOTHING, 0), ("more", ("pair", NOTHING, ("text", 3)), 1)]),
        END,
    ]


TALK = [
    ("left", "add", [1, 0]), ("left", "ask", "how, \"so\""), ("right", "more", (None, "a b")), ("right", "yes", 258),
    ("left", "ask", ""), ("right", "no", None), ("left", "add", []), ("left", "go", None),
]


def said_or_none(say, *parts):
    try:
        return say(*parts)
    except NoTalk:
        return None


def in_some_order(chance, talk, say, take, lose):
    """Both say and take the talk in some order; told are the talks that they said and took, by their sides.

    say tells a message's bytes, or None where its side may not say it yet; take takes a piece of what the other side
    said; lose is asked by chance for what lies on both wires then.
    """
    wires, talks, at = {"left": [], "right": []}, {"left": [], "right": []}, 0
    while at < len(talk) or wires["left"] or wires["right"]:
        row = say(*talk[at]) if at < len(talk) and chance.random() < 0.7 else None
        if row is not None:
            wires[talk[at][0]] = wires[talk[at][0]] + row
            talks[talk[at][0]].append(talk[at])
            at += 1
        if chance.random() < 0.2:
            wires = lose(wires)
        for side in chance.sample(SIDES, 2):
            cut = chance.randrange(len(wires[OTHER[side]]) + 1)
            piece, wires[OTHER[side]] = wires[OTHER[side]][:cut], wires[OTHER[side]][cut:]
            talks[side] += take(side, piece)
    return talks


class WholeTest(unittest.TestCase):

    def everywhere(self, chance, g, talk):
        left, right = expected_wires(g, talk)
        state = state_behind(g, talk)
        self.assertEqual(wires_of(g, talk), (left, right))
        self.assertEqual(talk_by(g, left, right), (talk, state, (len(left), len(right))))
        self.assertEqual(judged(g, talk), ("over",) if is_whole(g, talk) else ("turn", g[state][0]))
        for cut, message in enumerate(talk):
            self.assertEqual(judged(g, talk[:cut]), ("turn", message[0]))
        self.in_pieces(chance, g, talk)
        self.by_sides(chance, g, talk)
        self.by_a_parley(chance, g, talk)
        self.cut_off(chance, g, talk)
        self.side_by_side(chance, g, talk)
        self.through_relays(chance, g, talk)
        self.at_a_desk(chance, g, talk)

    def in_pieces(self, chance, g, talk):
        reader, told = Reader(g), []
        for side, piece in drawn_feeding(chance, *wires_of(g, talk)):
            told += reader.feed(side, piece)
        self.assertEqual((told, reader.state(), reader.unread()), (talk, state_behind(g, talk), (0, 0)))

    def by_sides(self, chance, g, talk):
        sides, wires = {side: Side(g, side) for side in SIDES}, {"left": [], "right": []}

        def say(side, name, value):
            row = said_or_none(sides[side].say, name, value)
            wires[side] += row or []
            return row

        talks = in_some_order(chance, talk, say, lambda side, piece: sides[side].take(piece), lambda wires: wires)
        self.assertEqual(talks, {"left": talk, "right": talk})
        self.assertEqual((wires["left"], wires["right"]), wires_of(g, talk))

    def by_a_parley(self, chance, g, talk):
        parley = Parley(g)
        talks = in_some_order(
            chance, talk, lambda *message: said_or_none(parley.do, ("say", *message)),
            lambda side, piece: parley.do(("take", side, len(piece))) if piece else [], lambda wires: wires,
        )
        self.assertEqual(talks, {"left": talk, "right": talk})
        self.assertEqual(parley.is_over(), is_whole(g, talk))
        self.assertEqual(stands_in(g, g)[0], "likeness")

    def cut_off(self, chance, g, talk):
        sides = {side: Lasting(g, side) for side in SIDES}
        talks = in_some_order(
            chance, talk, lambda side, name, value: said_or_none(sides[side].say, name, value),
            lambda side, piece: sides[side].take(piece),
            lambda wires: {side: sides[side].said_behind(sides[OTHER[side]].ticket()) for side in SIDES},
        )
        self.assertEqual(talks, {"left": talk, "right": talk})

    def side_by_side(self, chance, g, talk):
        other = drawn_grammar(chance, 3)
        talks = [talk, drawn_talk(chance, other, 6), talk]
        order = [k for k, one in enumerate(talks) for _ in one]
        chance.shuffle(order)
        left = [list(one) for one in talks]
        said = [(k, *left[k].pop(0)) for k in order]
        wires = wires_beside([g, other, g], said)
        self.assertEqual(talks_beside([g, other, g], *wires), (talks, (len(wires[0]), len(wires[1]))))

    def through_relays(self, chance, g, talk):
        """Two relays in a row that give each name itself pass on the wires as they are."""
        relays = [self.same_relay(g) for _ in range(2)]
        left, right = wires_of(g, talk)
        wires, passed = {"left": left, "right": right}, {"left": [], "right": []}
        while (passed["left"], passed["right"]) != (left, right):
            for side in SIDES:
                cut = chance.randrange(len(wires[side]) + 1)
                piece, wires[side] = wires[side][:cut], wires[side][cut:]
                for relay in relays if side == "left" else relays[::-1]:
                    piece = relay.pass_on(side, piece)
                passed[side] += piece
        for relay in relays:
            self.assertEqual(relay.states(), (state_behind(g, talk),) * 2)

    def same_relay(self, g):
        names = {word[0]: word[0] for state in g if state != END for word in state[1]}
        return Relay(g, g, relay_table(g, g, names))

    def at_a_desk(self, chance, g, talk):
        desk = Desk()
        self.assertEqual(desk.say(f"grammar it {show_grammar(g)}"), "ok")
        self.assertEqual(desk.say("talk it"), "ok")
        shapes = [
            [word[1] for word in g[state_behind(g, talk[:k])][1] if word[0] == message[1]][0]
            for k, message in enumerate(talk)
        ]
        written = [(side, name, show_value(shape, value)) for (side, name, value), shape in zip(talk, shapes)]

        def say(*message):
            row = said_or_none(desk.say, " ".join(("say", *message)))
            return None if row is None else [int(byte) for byte in row.split(" ")]

        def take(side, piece):
            row = desk.say(f"take {side} {len(piece)}") if piece else "none"
            return [] if row == "none" else [tuple(part.split(" ", 2)) for part in parted(row)]

        talks = in_some_order(chance, written, say, take, lambda wires: wires)
        self.assertEqual(talks, {"left": written, "right": written})
        self.assertEqual(desk.say("over"), "yes" if is_whole(g, talk) else "no")
        self.assertEqual(desk.say("states"), f"{state_behind(g, talk)} {state_behind(g, talk)}")

    def test_a_talk(self):
        for seed in range(20):
            for length in [0, 1, 3, 8]:
                self.everywhere(chance_of(seed), asking(), TALK[:length])

    def test_drawn_talks(self):
        chance, messages = chance_of(3), 0
        for _ in range(150):
            g = drawn_grammar(chance, chance.choice([1, 2, 4, 30]))
            talk = drawn_talk(chance, g, 15)
            self.everywhere(chance, g, talk)
            messages += len(talk)
        self.assertGreater(messages, 800)

    def test_a_long_talk(self):
        g = [("left", [("a", ("number", 0, 300), 1)]), ("right", [("b", ("text", 1), 0), ("c", ("text", 1), 1)])]
        talk = [("left", "a", 299), ("right", "c", "x"), ("right", "b", "")] * 60
        self.everywhere(chance_of(30), g, talk)

    def test_by_other_names_through_a_relay(self):
        """What is judged by the one grammar is judged alike by the other, with its own names."""
        chance = chance_of(33)
        for _ in range(150):
            g = near_grammar(chance, chance.choice([2, 4, 9]))
            h, names = relayed_kin(chance, g)
            same = {"left": g, "right": h}
            relay, talks = Relay(g, h, relay_table(g, h, names)), {"left": [], "right": []}
            given = {name: mine for mine, name in names.items()}
            for _ in range(15):
                verdict = judged(g, talks["left"])
                self.assertEqual(judged(h, talks["right"]), verdict)
                if verdict == ("over",):
                    break
                side = verdict[1]
                state = same[side][state_behind(same[side], talks[side])]
                message = drawn_talk(chance, [(side, [(*word[:2], 1) for word in state[1]]), END], 1)[0]
                name = names[message[1]] if side == "left" else given[message[1]]
                before = [wires_of(same[one], talks[one])[SIDES.index(side)] for one in SIDES]
                talks[side].append(message)
                talks[OTHER[side]].append((side, name, message[2]))
                behind = [wires_of(same[one], talks[one])[SIDES.index(side)] for one in SIDES]
                rows = {one: behind[k][len(before[k]):] for k, one in enumerate(SIDES)}
                self.assertEqual(relay.pass_on(side, rows[side]), rows[OTHER[side]])
                self.assertEqual(relay.states(), (state_behind(g, talks["left"]), state_behind(h, talks["right"])))

    def test_wires_that_begin_no_talk_are_refused_alike(self):
        chance, broke = chance_of(34), 0
        for _ in range(150):
            g = drawn_grammar(chance, chance.choice([1, 2, 4]))
            known = KnownWires(g)
            for _ in range(6):
                left, right = [damaged(chance, wire) for wire in expected_wires(g, drawn_talk(chance, g, 12))]
                expected = known.read(left, right)
                told = [
                    self.told(lambda: talk_by(g, left, right)[0]),
                    self.told(lambda: self.fed(chance, Reader(g), left, right)),
                ]
                if expected[0] == "broken":
                    broke += 1
                    told.append(self.told(lambda: self.passed(self.same_relay(g), left, right)))
                    self.assertEqual(told, [expected] * 3)
                else:
                    self.assertEqual(told, [expected[1]] * 2)
                    rows = self.passed(self.same_relay(g), left, right)
                    self.assertEqual(rows, wires_of(g, expected[1]))
        self.assertGreater(broke, 200)

    def told(self, ask):
        try:
            return ask()
        except Broken as error:
            return ("broken", error.at, error.side)

    def fed(self, chance, reader, left, right):
        return [message for side, piece in drawn_feeding(chance, left, right) for message in reader.feed(side, piece)]

    def passed(self, relay, left, right):
        """All that a relay passes on of two wires that lie there whole."""
        passed = {"left": relay.pass_on("left", left), "right": relay.pass_on("right", right)}
        before = None
        while before != (len(passed["left"]), len(passed["right"])):
            before = (len(passed["left"]), len(passed["right"]))
            for side in SIDES:
                passed[side] += relay.pass_on(side, [])
        return passed["left"], passed["right"]


def parted(row):
    """A row of messages in its parts: commas within a text's quotes part none."""
    parts, quoted = [""], False
    for k, sign in enumerate(row):
        quoted = quoted != (sign == '"')
        if not quoted and row[k:k + 2] == ", ":
            parts.append("")
        elif not (parts[-1] == "" and sign == " "):
            parts[-1] += sign
    return parts


if __name__ == "__main__":
    unittest.main()
