"""Point [22]: the writings of shapes, values and grammars, and how they are read back."""

import copy
import unittest

from tests.drawn import SHAPES, chance_of, drawn_grammar, near_grammar
from tests.expected import SIGNS, lists_in, values_of
from tests.odd import odd_things
from wireparley.errors import NoText, NoValue
from wireparley.shapes import fits, is_shape
from wireparley.talks import is_grammar
from wireparley.texts import read_grammar, read_shape, read_worth, show_grammar, show_shape, show_value

NOTHING = ("nothing",)
END = ("end",)
BIT = ("number", 0, 1)
MOST = 999999999999999999
NUMBER = ("number", -MOST, MOST)

SHAPE_ROWS = [
    (NOTHING, "nothing"),
    (("number", 0, 9), "number(0,9)"),
    (("number", 0, 0), "number(0,0)"),
    (("number", -5, -5), "number(-5,-5)"),
    (("number", -10, 100), "number(-10,100)"),
    (NUMBER, "number(-999999999999999999,999999999999999999)"),
    (("text", 0), "text(0)"),
    (("text", 250), "text(250)"),
    (("list", NOTHING, 0), "list(nothing,0)"),
    (("list", ("text", 10), 250), "list(text(10),250)"),
    (("list", ("list", BIT, 2), 3), "list(list(number(0,1),2),3)"),
    (("pair", NOTHING, NOTHING), "pair(nothing,nothing)"),
    (("pair", BIT, ("text", 3)), "pair(number(0,1),text(3))"),
    (("pair", ("pair", BIT, NOTHING), ("list", BIT, 1)), "pair(pair(number(0,1),nothing),list(number(0,1),1))"),
    (("choice", (NOTHING,)), "choice(nothing)"),
    (("choice", (BIT, NOTHING, ("text", 1))), "choice(number(0,1),nothing,text(1))"),
    (("choice", (NOTHING,) * 9), "choice(nothing,nothing,nothing,nothing,nothing,nothing,nothing,nothing,nothing)"),
    (("choice", (("choice", (NOTHING,)), ("pair", BIT, BIT))), "choice(choice(nothing),pair(number(0,1),number(0,1)))"),
    (("list", ("list", ("list", ("list", ("list", NOTHING, 5), 4), 3), 2), 1),
     "list(list(list(list(list(nothing,5),4),3),2),1)"),
]

VALUE_ROWS = [
    (NOTHING, None, "-"),
    (NUMBER, 0, "0"),
    (NUMBER, 7, "7"),
    (NUMBER, -7, "-7"),
    (NUMBER, 10, "10"),
    (NUMBER, -100, "-100"),
    (NUMBER, MOST, "999999999999999999"),
    (NUMBER, -MOST, "-999999999999999999"),
    (NUMBER, 100000000000000000, "100000000000000000"),
    (("text", 9), "", '""'),
    (("text", 9), "ab", '"ab"'),
    (("text", 9), '"', '""""'),
    (("text", 9), '""', '""""""'),
    (("text", 9), 'a"b', '"a""b"'),
    (("text", 9), '"a"', '"""a"""'),
    (("text", 9), " ", '" "'),
    (("text", 9), "  a  b ", '"  a  b "'),
    (("text", 9), ",", '","'),
    (("text", 9), '","', '""","""'),
    (("text", 9), "[](){}", '"[](){}"'),
    (("text", 9), "#0:-", '"#0:-"'),
    (("text", 9), "a:b>c; d", '"a:b>c; d"'),
    (("text", 9), "\\n'`~!", '"\\n\'`~!"'),
    (("text", 100), SIGNS, '"' + SIGNS.replace('"', '""') + '"'),
    (("text", 250), '"' * 250, '"' * 502),
    (("list", NOTHING, 3), [], "[]"),
    (("list", NOTHING, 3), [None], "[-]"),
    (("list", NOTHING, 3), [None, None, None], "[-,-,-]"),
    (("list", NUMBER, 3), [-1, 0, 12], "[-1,0,12]"),
    (("list", ("text", 3), 3), ["", ",", '"]"'], '["",",","""]"""]'),
    (("list", ("list", BIT, 2), 3), [[], [1], [0, 1]], "[[],[1],[0,1]]"),
    (("list", NOTHING, 250), [None] * 250, "[" + "-," * 249 + "-]"),
    (("pair", NOTHING, NOTHING), (None, None), "(-,-)"),
    (("pair", NUMBER, ("text", 3)), (-3, "(,)"), '(-3,"(,)")'),
    (("pair", ("pair", BIT, BIT), ("list", BIT, 2)), ((0, 1), []), "((0,1),[])"),
    (("choice", (NOTHING, BIT)), ("of", 0, None), "#0:-"),
    (("choice", (NOTHING, BIT)), ("of", 1, 1), "#1:1"),
    (("choice", (NOTHING,) * 9), ("of", 8, None), "#8:-"),
    (("choice", (NOTHING, ("text", 5))), ("of", 1, "#1:-"), '#1:"#1:-"'),
    (("choice", (("choice", (NOTHING, NUMBER)),)), ("of", 0, ("of", 1, -5)), "#0:#1:-5"),
    (("list", ("choice", (BIT, ("pair", BIT, BIT))), 3), [("of", 0, 1), ("of", 1, (0, 1))], "[#0:1,#1:(0,1)]"),
]


def asking():
    return [
        ("left", [("ask", ("text", 9), 1), ("go", NOTHING, 2)]),
        ("right", [("yes", ("pair", BIT, ("list", BIT, 3)), 0), ("no", ("choice", (NOTHING, BIT)), 0)]),
        END,
    ]


ASKING = ("left ask:text(9)>1 go:nothing>2; right yes:pair(number(0,1),list(number(0,1),3))>0 "
          "no:choice(nothing,number(0,1))>0; end")

GRAMMAR_ROWS = [
    ([END], "end"),
    ([END, END], "end; end"),
    ([("left", [("a", NOTHING, 0)])], "left a:nothing>0"),
    ([("right", [("abcdefgh", BIT, 0)])], "right abcdefgh:number(0,1)>0"),
    ([("left", [("end", NOTHING, 0), ("left", NOTHING, 0), ("right", NOTHING, 0)])],
     "left end:nothing>0 left:nothing>0 right:nothing>0"),
    ([("left", [("number", ("number", -2, 5), 1), ("nothing", NOTHING, 0)]), END],
     "left number:number(-2,5)>1 nothing:nothing>0; end"),
    (asking(), ASKING),
    ([END] * 30, "; ".join(["end"] * 30)),
    ([("right", [("a", NOTHING, (k + 1) % 30)]) for k in range(30)],
     "; ".join(f"right a:nothing>{(k + 1) % 30}" for k in range(30))),
    ([("left", [(name, ("text", k), k % 2) for k, name in enumerate("abcdefghi")]), END],
     "left " + " ".join(f"{name}:text({k})>{k % 2}" for k, name in enumerate("abcdefghi")) + "; end"),
]

NO_SHAPES = [
    "", " ", "nothing ", " nothing", "Nothing", "NOTHING", "nothin", "nothingg", "nothing()", "nothing(nothing)",
    "nothing,", "nothing\n", "\tnothing", "nothingnothing", "nothing nothing", "nothing(", "nothing)", "thing", "-",
    "0", "number", "number()", "number(0)", "number(0,)", "number(,0)", "number(0,1,2)", "number(0,1", "number0,1)",
    "number(01)", "number(0, 1)", "number (0,1)", "number( 0,1)", "number(0 ,1)", "number(0,1) ", "number(00,1)",
    "number(0,01)", "number(-0,1)", "number(-1,-0)", "number(--1,0)", "number(+0,1)", "number(0,+1)", "number(- 1,0)",
    "number(1,0)", "number(0,-1)", "number(-1,-2)", "number(0,1000000000000000000)", "number(0,0999)",
    "number(-1000000000000000000,0)", "number(0;1)", "number[0,1]", "number(0,1))", "number((0,1))", "number(0.0,1)",
    "number(a,b)", "number(nothing,1)", "number(0,1_0)", "number(0,1e1)", "number(-,1)", "number(\u0660,1)",
    "numbers(0,1)", "number(0,\u00b2)", "number(0x1,5)", "number(0,,1)", "number(-00,0)", "text", "text()", "text(-1)",
    "text(251)", "text(999)", "text(05)", "text(1,2)", "text(nothing)", "text(text(1))", "text(a)", "text(1", "text1)",
    "text( 1)", "text(-0)", "text(\"1\")", "Text(1)", "text(1000000000000000000)", "list", "list()", "list(nothing)",
    "list(1,nothing)", "list(nothing,251)", "list(nothing,-1)", "list(nothing,nothing)", "list(1,1)",
    "list(nothing, 1)", "list(nothing,1,1)", "list(nothing 1)", "list(nothing,01)", "list(nothing,1",
    "list(list,1)", "list(lists(nothing,1),1)", "list(number(1,0),1)", "list(,1)", "list(nothing,)", "list[nothing,1]",
    "pair", "pair()", "pair(nothing)", "pair(nothing,)", "pair(,nothing)", "pair(nothing,nothing,nothing)",
    "pair(1,nothing)", "pair(nothing,1)", "pair(nothing,pair)", "pair(nothing, nothing)", "pair(nothing,nothing",
    "pair(nothing,text(251))", "pair nothing,nothing", "pair(nothing;nothing)", "choice", "choice()", "choice(1)",
    "choice(,)", "choice(nothing,)", "choice(,nothing)", "choice(nothing,1)", "choice(nothing,,nothing)",
    "choice((nothing))", "choice(nothing,nothing", "choice(choice())", "choice(choice)", "choice(nothing nothing)",
    "choice(nothing,number(3,2))", "(nothing)", "(nothing,nothing)", "()", ",", "(", ")",
    "choice(" + ",".join(["nothing"] * 10) + ")", "end", "left",
    "list(list(list(list(list(list(nothing,5),4),3),2),1),1)", "%", "nothing%", "none", "None", "('nothing',)",
    "nothing;", "text(3)text(3)", "text(3),text(3)",
]

# (shape, texts that write no value of it)
NO_VALUES = [
    (NOTHING, ["", " ", "--", "- ", " -", "0", "-0", "-1", "None", "nothing", "()", "[]", '""', '"-"', "#0:-", "-,-"]),
    (NUMBER, ["", " ", "-", "--1", "+1", "01", "00", "-0", "-01", "-00", "1 ", " 1", "- 1", "1 2", "1,2", "1.0", "1e3",
              "0x1", "1_000", "a", "1a", "a1", "1000000000000000000", "-1000000000000000000", "0000000000000000001",
              "1\n", "9" * 19, "1" + "0" * 30, "9" * 5000, "\u0661", "\u00b2", "1-", "1-1", '"1"', "[1]", "(1)", "#1",
              "True", "0000000000000000000", "000000000000000000"]),
    (("number", 3, 9), ["2", "10", "0", "-3", "03", "", "-", "33"]),
    (("number", -9, -3), ["-2", "-10", "3", "0", "-0", "-03"]),
    (("text", 3), ["", '"', '"""', '"""""', '"a', 'a"', "a", '"a""', '""a"', '"a"b"', '"ab" ', ' "ab"', '"abcd"',
                   '"%"', '"a%"', '"\n"', '"\t"', '"\x7f"', '"\x1f"', '"\u00e9"', '"\ud800"', "'a'", "-", "0",
                   '"a","b"', '"a""', '"""""""""', '""""""""""', '"' + "a" * 5000 + '"', "\u201ca\u201d",
                   '""""""""""""', '"a" "b"']),
    (("text", 0), ['" "', '"a"', '""""', "", '"', '"""']),
    (("list", NOTHING, 2), ["", "[", "]", "[-", "-]", "-", "[-,]", "[,-]", "[,]", "[-,-,-]", "[--]", "[- ,-]",
                            "[-, -]", "[ ]", "[] ", " []", "[[]]", "[][]", "[-]]", "[[-]", "(-)", "(-,-)", "{}",
                            "[-;-]", "[0]", "[-,,-]", "[]]", "[" + "-," * 5000 + "-]"]),
    (("list", NUMBER, 2), ["[1 2]", "[01]", "[1,-]", "[-0]", '["1"]', "[1,2,3]", "[1,2", "[1,2)", "[1.0]", "[1,2]]"]),
    (("list", ("text", 2), 2), ['["]', '["a]', '["a""b"]', '[a]', '["a",b]', '["a" ,"b"]', '["abc"]', '["","",""]',
                                '["a"",""]']),
    (("list", NOTHING, 0), ["[-]", "[,]", "[", "[ ]", "[[]]", ""]),
    (("list", ("list", BIT, 1), 1), ["[0]", "[[0],[1]]", "[[0,1]]", "[[2]]", "[[]", "[]]", "[[],[]]", "[[[]]]"]),
    (("pair", BIT, ("text", 1)), ["", "()", "(0)", "(0,)", '(,"")', '("",0)', '(0,"",0)', '(0,"")) ', '(0,"" )',
                                  '( 0,"")', '(0, "")', '(0 ,"")', '[0,""]', '0,""', '(2,"")', '(0,"ab")',
                                  '(0,"")(0,"")', '(0;"")', '(0"")', '((0,""))', '(0,""', '(0,"', '(0,', "(0", "(",
                                  ")", '(0,"")]', '(0,"",)']),
    (("choice", (NOTHING, BIT)), ["", "#", "#0", "#0:", "#:-", "0:-", "#0-", "#2:-", "#9:-", "#00:-", "#01:1", "#-0:-",
                                  "#-1:1", "#1:-", "#0:0", "#1:2", "# 0:-", "#0 :-", "#0: -", "#0:- ", " #0:-",
                                  "##0:-", "#0::-", "#0:#0:-", "-", "1", "#1:01", "of 0 -", "#10:-",
                                  "#999999999999999999:-", "#" + "9" * 99 + ":-", "#a:-", "#+0:-", "#0;-", "#1:1,",
                                  "(0,-)", "#\u0660:-", "#-:-"]),
]

NO_GRAMMARS = [
    "", " ", "end ", " end", "End", "ends", "end;", ";end", "; end", "end; ", "end;end", "end;  end", "end ; end",
    "end, end", "end;\nend", "end end", "end a:nothing>0", "end; end;", "end;; end", "end; ; end", "end\n", "end.",
    "; ", ";", "0", "-", "left", "right", "left ", "left  a:nothing>0", "left a:nothing>0 ", " left a:nothing>0",
    "left a:nothing>0;", "left a:nothing>0; ", "leftt a:nothing>0", "Left a:nothing>0", "middle a:nothing>0",
    "a:nothing>0", "left:a:nothing>0", "left a:nothing>0  b:nothing>0", "left a:nothing>0,b:nothing>0",
    "left a:nothing>0, b:nothing>0", "left\ta:nothing>0", "left a:nothing>1", "left a:nothing>-1", "left a:nothing>-0",
    "left a:nothing>00", "left a:nothing>+0", "left a:nothing>", "left a:nothing>0>0", "left a:nothing", "left a>0",
    "left a:>0", "left :nothing>0", "left a::nothing>0", "left anothing>0", "left a:nothing0", "left a:nothing >0",
    "left a:nothing> 0", "left a: nothing>0", "left a :nothing>0", "left a;nothing>0", "left a:nothing<0",
    "left a:nothing>>0", "left a:nothing>a", "left a:nothing>0a", "left a:nothing>\u0660", "left a:nothing>1; end; ",
    "left abcdefghi:nothing>0", "left A:nothing>0", "left a1:nothing>0", "left a-b:nothing>0", "left \u00e9:nothing>0",
    "left a_b:nothing>0", "left a:nothing>0 a:nothing>0", "left a:nothing>0 b:nothing>0 a:text(1)>0",
    "left a:number(1,0)>0", "left a:text(251)>0", "left a:thing>0", "left a:nothing(>0", "left a:list(nothing,1>0",
    "left a:list(nothing, 1)>0", "left a:pair(nothing,nothing>0",
    "left a:list(list(list(list(list(list(nothing,5),4),3),2),1),1)>0",
    "left " + " ".join(f"{name}:nothing>0" for name in "abcdefghij"), "; ".join(["end"] * 31),
    "left a:nothing>30; " + "; ".join(["end"] * 29), "left a:nothing>30; " + "; ".join(["end"] * 30),
    "left a:nothing>0; right", "left a:nothing>1; right b", "right a:choice()>0", "right a:nothing>0; END",
    "left a:nothing>01; end", "left a:nothing>1;end", "left a:nothing>1 ; end", "left a:nothing>1; end; left",
    "[('end',)]", "left a:%>0", "left a:nothing>0%", "left a:nothing>1000000000000000000",
    "left a:nothing>0000000000000000000", "left a:nothing>0\n", "left a:nothing>0;\tend",
]


def deep_texts():
    """Texts that go deeper than a program can follow."""
    return [
        "list(" * 100000, "list(" * 5000 + "nothing" + ",1)" * 5000, "pair(" * 5000,
        "choice(" * 5000 + "nothing" + ")" * 5000, "pair(nothing," * 5000 + "nothing" + ")" * 5000, "(" * 5000,
        "[" * 5000, "[" * 5000 + "]" * 5000, "#0:" * 5000 + "-", "number(" * 5000, '"' * 100001, "9" * 100000,
        "-" * 100000, "; " * 20000, "left " * 20000, "a:" * 20000, ">0" * 20000, "nothing," * 20000,
        "choice(" + "nothing," * 20000 + "nothing)", "left " + "a:nothing>0 " * 20000, "end; " * 20000 + "end",
    ]


def changed_texts(text):
    """The text with one sign left out, put in, doubled, exchanged with the next one, or another in its place."""
    told = set()
    for at in range(len(text) + 1):
        for sign in " ,;:>#()[]\"-0189aznlet%\n":
            told.add(text[:at] + sign + text[at:])
            told.add(text[:at] + sign + text[at + 1:])
        told.add(text[:at] + text[at + 1:])
        told.add(text[:at] + text[at:at + 1] * 2 + text[at + 1:])
        told.add(text[:at] + text[at + 1:at + 2] + text[at:at + 1] + text[at + 2:])
        told.add(text[:at])
        told.add(text[at:])
    return sorted(told - {text})


def counted_sixty(count):
    """A choice of choices with so many shapes in all, at least 11."""
    parts = []
    left = count - 1
    while left > 0:
        inner = min(9, max(left - 1, 0))
        parts.append(("choice", (NOTHING,) * inner) if inner else NOTHING)
        left -= 1 + inner
    return ("choice", tuple(parts))


class ShapesTest(unittest.TestCase):

    def no_text(self, text):
        try:
            told = read_shape(text)
        except NoText:
            return
        self.fail(f"{text!r}"[:200] + f" was read as {told!r}"[:200])

    def test_rows(self):
        for s, text in SHAPE_ROWS:
            with self.subTest(text):
                self.assertTrue(is_shape(s))
                self.assertEqual(show_shape(s), text)
                self.assertIs(type(show_shape(s)), str)
                self.assertEqual(read_shape(text), s)
                self.assertTrue(is_shape(read_shape(text)))

    def test_each_most(self):
        for most in range(251):
            for s, text in [(("text", most), f"text({most})"), (("list", NOTHING, most), f"list(nothing,{most})")]:
                self.assertEqual((show_shape(s), read_shape(text)), (text, s))
        for most in range(251, 1200):
            self.no_text(f"text({most})")
            self.no_text(f"list(nothing,{most})")

    def test_numbers_of_all_lengths(self):
        for figures in range(1, 19):
            for number in [10 ** (figures - 1), 10 ** figures - 1]:
                s = ("number", -number, number)
                self.assertEqual(show_shape(s), f"number(-{number},{number})")
                self.assertEqual(read_shape(show_shape(s)), s)
        for number in [10 ** 18, 10 ** 18 + 1, 10 ** 19 - 1, 10 ** 40]:
            self.no_text(f"number(0,{number})")
            self.no_text(f"number(-{number},0)")
            self.no_text(f"number({number},{number})")

    def test_texts_that_write_none(self):
        for text in NO_SHAPES + deep_texts():
            with self.subTest(text[:80]):
                self.no_text(text)

    def test_too_deep(self):
        for wrap in ["list({},1)", "pair({},nothing)", "pair(nothing,{})", "choice({})", "choice(nothing,{})"]:
            text = "nothing"
            for depth in range(2, 12):
                text = wrap.replace("{}", text)
                if depth <= 6:
                    self.assertEqual(show_shape(read_shape(text)), text)
                else:
                    self.no_text(text)

    def test_too_many(self):
        for count in [11, 40, 58, 59, 60, 61, 62, 80]:
            s = counted_sixty(count)
            self.assertIs(is_shape(s), count <= 60)
            if count <= 60:
                self.assertEqual(read_shape(show_shape(s)), s)
            else:
                self.no_text(show_shape(s))

    def test_things_that_are_no_texts(self):
        for k, thing in enumerate(odd_things() + [None, True, 0, 7, [], (), ["nothing"], ("nothing",),
                                                  list("nothing")]):
            with self.subTest(k):
                self.no_text(thing)

    def test_one_writing_each(self):
        """A text near to a writing is either none, or the writing of another shape."""
        refused = 0
        for s, text in SHAPE_ROWS:
            for changed in changed_texts(text):
                try:
                    told = read_shape(changed)
                except NoText:
                    refused += 1
                    continue
                self.assertNotEqual(told, s)
                self.assertTrue(is_shape(told))
                self.assertEqual(show_shape(told), changed)
        self.assertGreater(refused, 20000)


class ValuesTest(unittest.TestCase):

    def no_text(self, s, text):
        try:
            told = read_worth(s, text)
        except NoText:
            return
        self.fail(f"{text!r}"[:200] + f" was read as {told!r}"[:200])

    def same(self, told, value):
        self.assertEqual(told, value)
        self.assertEqual(repr(told), repr(value))

    def test_rows(self):
        for s, value, text in VALUE_ROWS:
            with self.subTest(text):
                self.assertTrue(is_shape(s) and fits(s, value))
                self.assertEqual(show_value(s, value), text)
                self.assertIs(type(show_value(s, value)), str)
                self.same(read_worth(s, text), value)

    def test_each_value(self):
        """All values of some shapes: unlike ones have unlike writings, and each is read back."""
        for s in SHAPES:
            texts = [show_value(s, value) for value in values_of(s)]
            self.assertEqual(len(set(texts)), len(texts))
            for value, text in zip(values_of(s), texts):
                self.same(read_worth(s, text), value)

    def test_numbers_of_all_lengths(self):
        for figures in range(1, 19):
            for number in [10 ** (figures - 1), 10 ** figures - 1]:
                for value in [number, -number]:
                    self.assertEqual(show_value(NUMBER, value), repr(value))
                    self.same(read_worth(NUMBER, repr(value)), value)
        for figures in range(19, 60):
            for number in [10 ** (figures - 1), 10 ** figures - 1]:
                self.no_text(NUMBER, str(number))
                self.no_text(NUMBER, str(-number))

    def test_nineteen_figures_by_any_bounds(self):
        self.no_text(("number", 0, 10 ** 19), "1000000000000000000")
        self.assertEqual(read_worth(("number", 0, 10 ** 19), str(MOST)), MOST)

    def test_each_sign(self):
        for number in range(256):
            sign, s = chr(number), ("text", 3)
            text = '"a' + (sign * 2 if sign == '"' else sign) + 'b"'
            if sign in SIGNS:
                self.assertEqual(show_value(s, f"a{sign}b"), text)
                self.assertEqual(read_worth(s, text), f"a{sign}b")
            else:
                self.no_text(s, text)

    def test_drawn_texts(self):
        chance = chance_of(22)
        s = ("list", ("text", 12), 4)
        for _ in range(500):
            value = ["".join(chance.choice('""" ,[]#:-(a') for _ in range(chance.randrange(13)))
                     for _ in range(chance.randrange(5))]
            text = "[" + ",".join('"' + part.replace('"', '""') + '"' for part in value) + "]"
            self.assertEqual(show_value(s, value), text)
            self.same(read_worth(s, text), value)

    def test_texts_that_write_none(self):
        for s, texts in NO_VALUES:
            for text in texts + deep_texts():
                with self.subTest(s=s, text=text[:80]):
                    self.no_text(s, text)

    def test_by_another_shape(self):
        for _, value, text in VALUE_ROWS:
            for r in [row[0] for row in VALUE_ROWS]:
                if fits(r, value):
                    self.same(read_worth(r, text), value)
                else:
                    self.no_text(r, text)

    def test_things_that_are_no_texts(self):
        things = odd_things() + [None, True, 0, 7, [], (), ["-"], ("-",), (0, 1), ("of", 0, None)]
        for s in [row[0] for row in VALUE_ROWS[:40:3]] + [NOTHING]:
            for thing in things:
                self.no_text(s, thing)

    def test_one_writing_each(self):
        refused = 0
        for s, value, text in VALUE_ROWS:
            if len(text) > 60:
                continue
            for changed in changed_texts(text):
                try:
                    told = read_worth(s, changed)
                except NoText:
                    refused += 1
                    continue
                self.assertNotEqual(repr(told), repr(value))
                self.assertTrue(fits(s, told))
                self.assertEqual(show_value(s, told), changed)
        self.assertGreater(refused, 5000)

    def test_what_does_not_fit(self):
        for s, thing in [
            (NOTHING, 0), (NOTHING, "-"), (NOTHING, []), (("number", 0, 9), 10), (("number", 0, 9), -1), (BIT, True),
            (BIT, None),
            (BIT, "1"), (BIT, 1.0), (("text", 2), "abc"), (("text", 2), "%"), (("text", 2), "\n"), (("text", 2), None),
            (("list", BIT, 2), [0, 0, 0]), (("list", BIT, 2), [2]), (("list", BIT, 2), (0, 1)), (("pair", BIT, BIT),
                                                                                                 (0,)),
            (("pair", BIT, BIT), [0, 1]), (("pair", BIT, BIT), (0, 2)), (("choice", (BIT,)), ("of", 1, 0)),
            (("choice", (BIT,)), ("of", 0, 2)), (("choice", (BIT,)), ("of", True, 0)), (("choice", (BIT,)), 0),
            (("choice", (BIT,)), ["of", 0, 0]), (("text", 250), "a" * 251),
        ]:
            with self.assertRaises(NoValue):
                show_value(s, thing)

    def test_whatever_does_not_fit(self):
        for s in [NOTHING, BIT, ("text", 5), ("list", BIT, 3), ("pair", BIT, BIT), ("choice", (BIT, NOTHING)),
                  ("list", ("list", NOTHING, 2), 3)]:
            for k, thing in enumerate(odd_things()):
                for part in [thing, [thing], (thing, thing), ("of", 0, thing), ("of", thing, 0)]:
                    if not fits(s, part):
                        with self.subTest(k), self.assertRaises(NoValue):
                            show_value(s, part)


class GrammarsTest(unittest.TestCase):

    def no_text(self, text):
        try:
            told = read_grammar(text)
        except NoText:
            return
        self.fail(f"{text!r}"[:200] + f" was read as {told!r}"[:200])

    def test_rows(self):
        for g, text in GRAMMAR_ROWS:
            with self.subTest(text):
                self.assertTrue(is_grammar(g))
                self.assertEqual(show_grammar(g), text)
                self.assertIs(type(show_grammar(g)), str)
                self.assertEqual(read_grammar(text), g)
                self.assertTrue(is_grammar(read_grammar(text)))

    def test_each_shape(self):
        for s, text in SHAPE_ROWS:
            g = [("right", [("a", s, 1), ("b", NOTHING, 0)]), END]
            self.assertEqual(show_grammar(g), f"right a:{text}>1 b:nothing>0; end")
            self.assertEqual(read_grammar(show_grammar(g)), g)

    def test_no_shape_in_a_grammar(self):
        for text in NO_SHAPES:
            self.no_text(f"right a:{text}>1 b:nothing>0; end")
            self.no_text(f"right b:nothing>0 a:{text}>1; end")
            self.no_text(f"end; left a:{text}>0")

    def test_texts_that_write_none(self):
        for text in NO_GRAMMARS + deep_texts():
            with self.subTest(text[:80]):
                self.no_text(text)

    def test_things_that_are_no_texts(self):
        for k, thing in enumerate(odd_things() + [None, True, 0, 7, [], (), ["end"], ("end",), [END], asking()]):
            with self.subTest(k):
                self.no_text(thing)

    def test_too_many_shapes(self):
        for count in [59, 60, 61]:
            text = f"left a:{show_shape(counted_sixty(count))}>0"
            if count <= 60:
                self.assertEqual(read_grammar(text), [("left", [("a", counted_sixty(count), 0)])])
            else:
                self.no_text(text)

    def test_drawn(self):
        chance = chance_of(220)
        for _ in range(200):
            g = chance.choice([drawn_grammar, near_grammar])(chance, chance.choice([1, 2, 8, 30]))
            self.assertEqual(read_grammar(show_grammar(g)), g)

    def test_one_writing_each(self):
        refused = 0
        for g, text in GRAMMAR_ROWS:
            if len(text) > 200:
                continue
            for changed in changed_texts(text):
                try:
                    told = read_grammar(changed)
                except NoText:
                    refused += 1
                    continue
                self.assertNotEqual(told, g)
                self.assertTrue(is_grammar(told))
                self.assertEqual(show_grammar(told), changed)
        self.assertGreater(refused, 10000)


class AskedTest(unittest.TestCase):
    """Point [2]."""

    def test_what_is_handed_in_stays(self):
        for s, value, text in VALUE_ROWS:
            kept = copy.deepcopy((s, value))
            for _ in range(2):
                self.assertEqual((show_value(s, value), show_shape(s)), (text, show_shape(s)))
                self.assertEqual(read_worth(s, text), value)
            self.assertEqual((s, value), kept)
        g = asking()
        for _ in range(2):
            self.assertEqual(show_grammar(g), ASKING)
            self.assertEqual(read_grammar(ASKING), asking())
        self.assertEqual(g, asking())

    def test_each_told_list_is_new(self):
        s, text = ("list", ("pair", ("list", BIT, 2), ("list", BIT, 2)), 3), "[([],[]),([1],[1])]"
        first, second = read_worth(s, text), read_worth(s, text)
        told = lists_in(first) + lists_in(second)
        self.assertEqual(len(told), 10)
        self.assertEqual(len({id(one) for one in told}), 10)
        for one in lists_in(first):
            one.append(5)
        self.assertEqual(second, [([], []), ([1], [1])])
        self.assertEqual(read_worth(s, text), second)

    def test_each_told_grammar_is_new(self):
        text = "left a:nothing>0; left a:nothing>0; end"
        first, second = read_grammar(text), read_grammar(text)
        told = lists_in(first) + lists_in(second)
        self.assertEqual(len(told), 6)
        self.assertEqual(len({id(one) for one in told}), 6)
        for one in lists_in(first):
            one.clear()
        self.assertEqual(second, [("left", [("a", NOTHING, 0)]), ("left", [("a", NOTHING, 0)]), END])
        self.assertEqual(read_grammar(text), second)

    def test_nothing_is_kept(self):
        g, bits = asking(), [0, 1]
        self.assertEqual(show_value(("list", BIT, 3), bits), "[0,1]")
        bits.append(1)
        self.assertEqual(show_value(("list", BIT, 3), bits), "[0,1,1]")
        show_grammar(g)
        g[1] = END
        g[0][1].pop()
        self.assertEqual(show_grammar(g), "left ask:text(9)>1; end; end")


if __name__ == "__main__":
    unittest.main()
