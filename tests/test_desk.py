"""Points [29] and [30]."""

import re
import unittest

from tests.drawn import chance_of, drawn_grammar, drawn_message, kin_of, near_grammar
from tests.expected import expected_ways
from tests.odd import odd_things
from wireparley.coming import most_under_way
from wireparley.desk import Desk
from wireparley.errors import NoName, NoRow, NoTalk, NoText, ParleyError
from wireparley.sides import Parley
from wireparley.standing import newer, stands_in
from wireparley.texts import read_grammar, read_worth, show_grammar, show_value
from wireparley.ways import how_many

SIDES = ["left", "right"]

ASKING = (
    "left ask:text(9)>1 add:list(number(0,1),3)>0 go:nothing>2; "
    "right yes:number(0,300)>0 no:nothing>0 more:choice(nothing,pair(text(3),number(-5,5)))>1; end"
)
MORE = ASKING.replace("text(9)", "text(12)")
ENDLESS = "left on:nothing>0"
DONE = "end"


def desk():
    told = Desk()
    for name, text in [("asking", ASKING), ("more", MORE), ("endless", ENDLESS), ("done", DONE)]:
        told.say(f"grammar {name} {text}")
    return told


def talking():
    told = desk()
    told.say("talk asking")
    return told


class DeskModel:
    """A desk by the words of points [29] and [30], over the program's other parts."""

    NAME, SIDE, NUMBER = "[a-z]{1,8}", "left|right", "[0-9]|[1-9][0-9]{1,2}"
    FORMS = [
        f"(grammar) ({NAME}) ((?s:.*))", f"(talk) ({NAME})", f"(say) ({SIDE}) ({NAME}) ((?s:.*))",
        f"(take) ({SIDE}) ({NUMBER})", "(may)", "(over)", "(states)", f"(ways) ({NAME}) ({NUMBER})",
        f"(stands) ({NAME}) ({NAME})", f"(newer) ({NAME}) ({NAME})", f"(bound) ({NAME})",
    ]

    def __init__(self):
        self.grammars, self.parley, self.talked = {}, None, None

    def say(self, row):
        found = [match for form in self.FORMS for match in [re.fullmatch(form, row)] if match]
        if not found:
            return NoRow
        word, *parts = found[0].groups()
        asked = {"talk": parts[:1], "ways": parts[:1], "bound": parts[:1], "stands": parts, "newer": parts}
        if any(name not in self.grammars for name in asked.get(word, [])):
            return NoName
        if word in ["say", "take", "may", "over", "states"] and self.parley is None:
            return NoName
        try:
            return getattr(self, f"row_{word}")(*parts)
        except ParleyError as error:
            return type(error)

    def row_grammar(self, name, text):
        self.grammars[name] = read_grammar(text)
        return "ok"

    def row_talk(self, name):
        self.talked = self.grammars[name]
        self.parley = Parley(self.talked)
        return "ok"

    def state(self, side):
        return self.talked[self.parley.states()[SIDES.index(side)]]

    def row_say(self, side, name, text):
        shapes = [word[1] for word in self.state(side)[1] if word[0] == name] if self.state(side)[0] == side else []
        if not shapes:
            raise NoTalk(0)
        row = self.parley.do(("say", side, name, read_worth(shapes[0], text)))
        return " ".join(str(byte) for byte in row)

    def row_take(self, side, n):
        return self.messages(self.parley.do(("take", side, int(n))), [self.talked]) or "none"

    def messages(self, messages, grammars):
        return ", ".join(f"{side} {name} {self.written(name, value, grammars)}" for side, name, value in messages)

    def written(self, name, value, grammars):
        """By the shape of whatever word by this name: a value has one writing by all shapes that it fits."""
        for g in grammars:
            for state in g:
                for word in state[1] if len(state) == 2 else []:
                    if word[0] == name:
                        try:
                            return show_value(word[1], value)
                        except ParleyError:
                            continue
        raise AssertionError("no such word")

    def row_may(self):
        return ", ".join(f"{kind} {side}" for kind, side in self.parley.may()) or "none"

    def row_over(self):
        return {True: "yes", False: "no"}[self.parley.is_over()]

    def row_states(self):
        return "{} {}".format(*self.parley.states())

    def row_ways(self, name, n):
        return str(how_many(self.grammars[name], int(n)))

    def row_stands(self, *names):
        g, h = [self.grammars[name] for name in names]
        kind, found = stands_in(g, h)
        return "yes" if kind == "likeness" else f"no {self.messages(found, [g, h])}".rstrip()

    def row_newer(self, *names):
        g, h = [self.grammars[name] for name in names]
        return " ".join({True: "yes", False: "no"}[truth] for truth in newer(g, h))

    def row_bound(self, name):
        return str(most_under_way(self.grammars[name])[0]).replace("None", "none")


class DeskTest(unittest.TestCase):

    def rows(self, told, *pairs):
        for row, answer in pairs:
            with self.subTest(row=row):
                said = told.say(row)
                self.assertEqual(said, answer)
                self.assertIs(type(said), str)

    def seen(self, told):
        """All that can be asked of a desk without changing it."""
        answers = [told.names()]
        for row in ["may", "over", "states", *[f"{word} {name}" for word in ["bound"] for name in told.names()]]:
            try:
                answers.append(told.say(row))
            except NoName:
                answers.append(NoName)
        for name in told.names():
            answers.append([told.say(f"ways {name} {n}") for n in range(4)])
            answers.append([told.say(f"stands {name} {other}") for other in told.names()])
        return answers

    def refused(self, told, row, error):
        before = self.seen(told)
        with self.subTest(row=row):
            with self.assertRaises(error) as caught:
                told.say(row)
            self.assertIs(type(caught.exception), error)
            if error is NoTalk:
                self.assertEqual(caught.exception.at, 0)
            self.assertEqual(self.seen(told), before)

    def test_a_new_desk(self):
        self.assertEqual(Desk().names(), [])
        for row in ["may", "over", "states", "say left go -", "take left 1", "talk a", "bound a"]:
            self.refused(Desk(), row, NoName)

    def test_grammars(self):
        told = Desk()
        self.rows(told, (f"grammar asking {ASKING}", "ok"), ("grammar b end", "ok"), ("grammar abcdefgh end", "ok"))
        self.assertEqual(told.names(), ["abcdefgh", "asking", "b"])
        self.assertIs(type(told.names()), list)
        # A grammar may be called by whatever letters, and as the rows' own words.
        for name in ["grammar", "talk", "say", "left", "end", "none", "z"]:
            self.rows(told, (f"grammar {name} end", "ok"), (f"bound {name}", "0"))
        names = ["abcdefgh", "asking", "b", "end", "grammar", "left", "none", "say", "talk", "z"]
        self.assertEqual(told.names(), names)

    def test_one_by_the_same_name(self):
        told = desk()
        self.rows(told, ("bound done", "0"), (f"grammar done {ENDLESS}", "ok"), ("bound done", "none"))
        self.assertEqual(told.names(), ["asking", "done", "endless", "more"])

    def test_while_a_talk_of_the_old_one_goes_on(self):
        told = talking()
        self.rows(
            told, ("say left ask \"how\"", "0 3 104 111 119"), ("grammar asking end", "ok"), ("bound asking", "0"),
            ("take right 5", "left ask \"how\""), ("say right no -", "1"), ("may", "take left"), ("states", "1 0"),
            ("take left 1", "right no -"), ("over", "no"), ("say left go -", "2"), ("take right 1", "left go -"),
            ("over", "yes"), ("talk asking", "ok"), ("states", "0 0"), ("over", "yes"), ("may", "none"),
        )

    def test_a_talk(self):
        self.rows(
            desk(), ("talk asking", "ok"), ("states", "0 0"), ("may", "say left"), ("over", "no"),
            ("say left add [1,0,1]", "1 3 1 0 1"), ("may", "say left, take right"),
            ("say left add []", "1 0"), ("say left ask \"a \"\"b, c\"", "0 7 97 32 34 98 44 32 99"),
            ("states", "1 0"), ("may", "take right"), ("take right 3", "none"),
            ("take right 4", "left add [1,0,1], left add []"), ("states", "1 0"), ("take right 8", "none"),
            ("take right 1", "left ask \"a \"\"b, c\""), ("states", "1 1"), ("may", "say right"),
            ("say right more #0:-", "2 0"), ("may", "say right, take left"), ("say right more #1:(\"\",-5)", "2 1 0 0"),
            ("say right yes 258", "0 1 2"), ("may", "take left"),
            ("take left 9", "right more #0:-, right more #1:(\"\",-5), right yes 258"), ("states", "0 0"),
            ("say left go -", "2"), ("states", "2 0"), ("over", "no"), ("take right 1", "left go -"),
            ("may", "none"), ("over", "yes"), ("states", "2 2"),
        )

    def test_a_new_talk(self):
        told = talking()
        self.rows(
            told, ("say left add [1]", "1 1 1"), ("talk endless", "ok"), ("states", "0 0"), ("may", "say left"),
            ("say left on -", "0"), ("say left on -", "0"), ("take right 2", "left on -, left on -"),
            ("talk done", "ok"), ("over", "yes"), ("may", "none"), ("talk asking", "ok"), ("may", "say left"),
        )

    def test_takings_of_many(self):
        told = desk()
        told.say("talk endless")
        for _ in range(999):
            told.say("say left on -")
        self.refused(told, "take right 1000", NoRow)
        for n in [10, 100]:
            self.rows(told, (f"take right {n}", ", ".join(["left on -"] * n)))
        self.refused(told, "take right 890", NoRow)
        self.rows(told, ("take right 889", ", ".join(["left on -"] * 889)), ("may", "say left"))

    def test_ways(self):
        self.rows(
            desk(), ("ways done 0", "1"), ("ways done 1", "0"), ("ways asking 0", "0"), ("ways asking 1", "1"),
            ("ways asking 2", "1"), ("ways asking 3", "3"), ("ways endless 100", "0"), ("ways done 100", "0"),
            ("ways asking 100", str(how_many(read_grammar(ASKING), 100))),
            ("ways asking 9", str(len(expected_ways(read_grammar(ASKING), 9)))),
        )

    def test_stands(self):
        told = desk()
        self.rows(
            told, ("stands asking asking", "yes"), ("stands asking more", "yes"),
            ("stands more asking", "no left ask \"aaaaaaaaaa\""), ("stands done done", "yes"),
            ("stands done asking", "no"), ("stands asking done", "no"), ("stands endless endless", "yes"),
        )
        told.say("grammar a left b:list(number(0,1),2)>1; right c:pair(text(1),nothing)>2; left d:nothing>2")
        told.say("grammar b left b:list(number(0,1),2)>1; right c:pair(text(1),nothing)>2; end")
        self.rows(told, ("stands a b", "no left b [], right c (\"\",-)"))
        told.say("grammar c right a:text(3)>0")
        told.say("grammar d right b:choice(number(-5,4),nothing)>0")
        self.rows(told, ("stands c d", "no right b #0:-5"), ("stands d c", "no right a \"\""))

    def test_newer(self):
        self.rows(
            desk(), ("newer asking more", "no yes"), ("newer more asking", "yes no"),
            ("newer asking asking", "yes yes"), ("newer asking done", "no no"), ("newer done endless", "no no"),
        )

    def test_bounds(self):
        told = desk()
        told.say("grammar two left a:nothing>1; left b:nothing>2; right c:nothing>0")
        self.rows(told, ("bound asking", "none"), ("bound endless", "none"), ("bound done", "0"), ("bound two", "2"))

    def test_rows_that_are_none(self):
        told = talking()
        told.say("say left add [1]")
        for row in [
            "", " ", "  ", "none", "ok", "grammars", "Grammar a end", "GRAMMAR a end", "mayb", "ma", "May", "end",
            "grammar", "grammar ", "grammar a", "grammar  end", "grammar a1 end", "grammar  a end", " grammar a end",
            "grammar A end", "grammar abcdefghi end", "grammar a_b end", "grammar a-b end", "grammar a\tend",
            "grammar\ta end", "grammar a\n end", "grammar a:b end",
            "talk", "talk ", "talk  asking", "talk asking ", " talk asking", "talk asking asking", "talk Asking",
            "talk abcdefghi", "talk asking\n", "talk 1", "talk a1", "talk \"asking\"", "talk,asking",
            "say", "say ", "say left", "say left ", "say left go", "say left  -", "say middle go -", "say Left go -",
            "say go -", "say  left go -", " say left go -", "say left Go -", "say left abcdefghi -", "say left  go -",
            "say left g0 -", "say left-right go -", "say leftright go -", "say l go -", "say left\tgo -",
            "say \tleft go -",
            "take", "take right", "take right ", "take  right 1", "take right  1", "take right 1 ", " take right 1",
            "take right 1 1", "take right 01", "take right 00", "take right 001", "take right 0001", "take right 1000",
            "take right -1", "take right +1", "take right 1.0", "take right one", "take right a", "take 1 right",
            "take middle 1", "take right 1\n", "take right\t1", "take right 1,2", "take right 1_0", "take right 0x1",
            "take right 99999", "take right #1", "take Right 1", "take right 1\t",
            "may ", " may", "may left", "may  ", "may\n", "\tmay", "over ", " over", "over left", "over\n", "states ",
            " states", "states 0", "state", "states\n", "may may", "may,over",
            "ways", "ways asking", "ways asking ", "ways  asking 1", "ways asking  1", "ways asking 1 ",
            "ways 1 asking", "ways asking 01", "ways asking 1000", "ways asking -1", "ways asking 1 1",
            "ways asking one", "ways Asking 1",
            "ways abcdefghi 1", " ways asking 1", "ways asking 000", "ways asking 1\n",
            "stands", "stands asking", "stands asking ", "stands asking  more", "stands asking more ", "stands a1 more",
            "stands asking more more", " stands asking more", "stands asking,more", "stands asking More",
            "stands asking abcdefghi",
            "newer", "newer asking", "newer asking ", "newer asking  more", "newer asking more ", "newer asking 1",
            "newer asking more more", " newer asking more", "newer abcdefghi more",
            "bound", "bound ", "bound  asking", "bound asking ", "bound asking more", " bound asking", "bound 7",
            "bound abcdefghi", "bound asking\n",
        ]:
            self.refused(told, row, NoRow)
            self.refused(Desk(), row, NoRow)
        self.rows(told, ("take right 2", "none"), ("take right 1", "left add [1]"))

    def test_whatever_rows(self):
        told = talking()
        for number, thing in enumerate(odd_things()):
            with self.subTest(number):
                with self.assertRaises(NoRow):
                    told.say(thing)
        for thing in [None, 0, 1, True, ["may"], ("may",), {"may": 1}, b"may"]:
            self.refused(told, thing, NoRow)

    def test_names_by_which_no_grammar_stands(self):
        for told in [Desk(), desk(), talking()]:
            for row in [
                "talk nobody", "talk a", "talk abcdefgh", "ways nobody 1", "ways nobody 0", "stands nobody asking",
                "stands nobody nobody", "newer nobody asking", "newer nobody nobody", "bound nobody", "bound askin",
                "bound askings", "talk grammar",
            ]:
                self.refused(told, row, NoName)
        for told in [desk(), talking()]:
            for row in ["stands asking nobody", "newer asking nobody", "stands asking askin"]:
                self.refused(told, row, NoName)

    def test_rows_of_a_talk_where_none_is(self):
        for told in [Desk(), desk()]:
            for row in [
                "may", "over", "states", "say left go -", "say left go x", "say left go ", "say right nobody x",
                "take left 0", "take left 1", "take right 999",
            ]:
                self.refused(told, row, NoName)

    def test_texts_that_write_none(self):
        told = talking()
        for text in [
            "", " ", "end ", " end", "end;", "end;end", "end;  end", "end; ", "ends", "left", "left ", "left go",
            "left  go:nothing>0",
            "left go:nothing>1", "left go:nothing>0 go:nothing>0", "left go:none>0", "left go:text(251)>0",
            "left go:text(09)>0", "left Go:nothing>0", "left abcdefghi:nothing>0", "middle go:nothing>0",
            "left go:nothing>0; ", "; ".join(["end"] * 31), "nothing", "-", "end\n", "end\t",
        ]:
            for name in ["asking", "fresh"]:
                self.refused(told, f"grammar {name} {text}", NoText)
        self.assertEqual(told.names(), ["asking", "done", "endless", "more"])
        self.rows(told, ("grammar fresh " + "; ".join(["end"] * 30), "ok"))

    def test_values_that_write_none(self):
        told = talking()
        for name, texts in [
            ("ask", ["", " ", "how", "\"how", "how\"", "\"how\" ", " \"how\"", "-", "7", "\"more than nine\"", "\"%\"",
                     "\"a\"b\"", "\"\n\"", "\"\t\"", "\"how\" more"]),
            ("add", ["", "1", "[1", "1]", "[2]", "[1,]", "[,1]", "[1, 0]", "[ ]", "[1,0,1,0]", "[01]", "[1;0]", "-",
                     "[-0]"]),
            ("go", ["", "--", "- ", " -", "0", "None", "\"\"", "[]"]),
        ]:
            for text in texts:
                self.refused(told, f"say left {name} {text}", NoText)
        self.rows(told, ("say left ask \"\"", "0 0"), ("take right 2", "left ask \"\""))
        for text in ["", "301", "-1", "007", "+7", "7 ", "7.0", "1e2", "#0:-"]:
            self.refused(told, f"say right yes {text}", NoText)
        for text in ["#0", "#0:", "#2:-", "#1:-", "0:-", "#0:- ", "#00:-", "#1:(\"\",6)", "#1:(\"\", 5)", "#1:\"\"",
                     "#-1:-"]:
            self.refused(told, f"say right more {text}", NoText)

    def test_words_that_are_none_or_not_now(self):
        told = talking()
        for row in ["say left yes 7", "say left tell -", "say left left -", "say right yes 7", "say right go -",
                    "say right ask \"how\"", "say right nobody -"]:
            self.refused(told, row, NoTalk)
        told.say("say left ask \"how\"")
        for row in ["say left ask \"how\"", "say left go -", "say left yes 7", "say right no -"]:
            self.refused(told, row, NoTalk)
        told.say("take right 4")
        self.refused(told, "say right no -", NoTalk)
        told.say("take right 1")
        self.refused(told, "say right go -", NoTalk)
        self.rows(told, ("say right no -", "1"), ("take left 1", "right no -"), ("say left go -", "2"))
        self.refused(told, "say left go -", NoTalk)
        self.rows(told, ("take right 1", "left go -"))
        for side in SIDES:
            self.refused(told, f"say {side} go -", NoTalk)
            self.refused(told, f"say {side} end -", NoTalk)

    def test_takings_of_bytes_that_do_not_lie_there(self):
        told = talking()
        for side in SIDES:
            for n in [0, 1, 2, 100, 999]:
                self.refused(told, f"take {side} {n}", NoRow)
        told.say("say left add [1]")
        for row in ["take right 0", "take right 4", "take right 999", "take left 1", "take left 0", "take left 3"]:
            self.refused(told, row, NoRow)
        self.rows(told, ("take right 3", "left add [1]"))

    def test_the_order_of_refusals(self):
        # A row that is none, ahead of all.
        for row in ["say left Go x", "say left go", "take left 01", "talk nobody ", "ways nobody 01", "say middle go x",
                    "stands nobody", "grammar A x"]:
            self.refused(Desk(), row, NoRow)
            self.refused(talking(), row, NoRow)
        # A name, ahead of what can be said and how that is written.
        for row in ["say right go x", "say left nobody x", "say left go x", "take left 0"]:
            self.refused(desk(), row, NoName)
        # A word that is none, or not now, ahead of its value's writing.
        for row in ["say right go x", "say right no x", "say left nobody x", "say left yes x", "say left nobody ",
                    "say left yes  7"]:
            self.refused(talking(), row, NoTalk)
        self.refused(talking(), "say left go x", NoText)
        self.refused(talking(), "say left go  -", NoText)
        self.refused(talking(), "say left ask \"more than nine\"", NoText)
        # The writing of a grammar whose name is new needs no name that stands.
        self.refused(Desk(), "grammar fresh x", NoText)

    def test_names_are_a_new_list(self):
        told = desk()
        first, second = told.names(), told.names()
        self.assertEqual(first, ["asking", "done", "endless", "more"])
        first.clear()
        second.append("nobody")
        self.assertEqual(told.names(), ["asking", "done", "endless", "more"])
        self.refused(told, "talk nobody", NoName)

    def test_desks_are_their_own(self):
        first, second = talking(), Desk()
        self.assertEqual(second.names(), [])
        self.refused(second, "may", NoName)
        first.say("say left add [1]")
        third = talking()
        self.rows(third, ("may", "say left"))
        self.rows(first, ("may", "say left, take right"))

    def test_the_same_asked_again(self):
        told = talking()
        told.say("say left add [1]")
        self.assertEqual(self.seen(told), self.seen(told))

    def test_drawn_rows(self):
        chance = chance_of(29)
        seen = {}
        for _ in range(60):
            told, model = Desk(), DeskModel()
            for _ in range(80):
                row = self.drawn_row(chance, model)
                if chance.random() < 0.15:
                    row = self.marred(chance, row)
                expected = model.say(row)
                kind = expected if isinstance(expected, type) else row.split(" ")[0]
                seen[kind] = seen.get(kind, 0) + 1
                with self.subTest(row=row):
                    self.assertEqual(self.answer(told, row), expected)
                    self.assertEqual(told.names(), sorted(model.grammars))
                for again in ["may", "over", "states"]:
                    self.assertEqual(self.answer(told, again), model.say(again))
        self.assertEqual(len(seen), 15)
        self.assertGreater(min(seen.values()), 30)

    def answer(self, told, row):
        try:
            return told.say(row)
        except ParleyError as error:
            return type(error)

    def drawn_row(self, chance, model):
        names = sorted(model.grammars) * 4 + ["nobody"]
        word = chance.choice([
            "grammar", "talk", "may", "over", "states", "ways", "stands", "newer", "bound", *["say", "take"] * 8,
        ])
        side, number = chance.choice(SIDES), chance.choice([0, 1, 1, 2, 3, 12, 100])
        if word == "grammar":
            g = drawn_grammar(chance, chance.choice([1, 2, 4])) if chance.random() < 0.5 else near_grammar(chance, 3)
            if model.grammars and chance.random() < 0.4:
                near = [g for g in model.grammars.values() if len(g) == 3]
                g = kin_of(chance, chance.choice(near), 1) if near and self.is_near(near) else g
            return f"grammar {chance.choice(['a', 'b', 'c'])} {show_grammar(g)}"
        if word == "say" and model.parley is not None:
            return self.drawn_saying(chance, model)
        return {
            "talk": f"talk {chance.choice(names)}", "say": "say left a -", "take": f"take {side} {number}",
            "ways": f"ways {chance.choice(names)} {number}", "bound": f"bound {chance.choice(names)}",
            "stands": f"stands {chance.choice(names)} {chance.choice(names)}",
            "newer": f"newer {chance.choice(names)} {chance.choice(names)}",
        }.get(word, word)

    def is_near(self, grammars):
        return all(set(word[0] for word in state[1]) <= set("abcd") for g in grammars for state in g if len(state) == 2)

    def drawn_saying(self, chance, model):
        sides = [side for side in SIDES if model.state(side)[0] == side]
        if not sides or chance.random() < 0.1:
            return f"say {chance.choice(SIDES)} {chance.choice(['a', 'b', 'left'])} -"
        (side, name, value), _ = drawn_message(chance, model.state(sides[0]))
        shape = [word[1] for word in model.state(side)[1] if word[0] == name][0]
        return f"say {side} {name} {show_value(shape, value)}"

    def marred(self, chance, row):
        at = chance.randrange(len(row) + 1)
        sign = chance.choice(" 01ax;:-\"(,\n\t")
        return chance.choice([row[:at] + sign + row[at:], row[:at] + row[at + 1:], row + sign, sign + row,
                              row.replace(" ", "  ", 1), row[:at]])


if __name__ == "__main__":
    unittest.main()
