"""The writings of shapes, values and grammars, and how they are read back."""

from wireparley.errors import NoText, NoValue
from wireparley.shapes import MOST_DEPTH, fits, is_number_within, is_shape
from wireparley.talks import is_end, is_grammar

MOST_FIGURES = 18
FIGURES = "0123456789"
LETTERS = "abcdefghijklmnopqrstuvwxyz"
QUOTE = '"'


def show_shape(s):
    parts = s[1] if s[0] == "choice" else s[1:]
    if len(parts) == 0:
        return s[0]
    return s[0] + "(" + ",".join([show_part(part) for part in parts]) + ")"


def show_part(part):
    return show_shape(part) if isinstance(part, tuple) else str(part)


def show_value(s, value):
    if not fits(s, value):
        raise NoValue("the value does not fit the shape")
    return show_fitting(value)


def show_fitting(value):
    # Of a value that fits some shape: its own form tells what kind of shape that is.
    if value is None:
        return "-"
    if isinstance(value, str):
        return QUOTE + value.replace(QUOTE, QUOTE + QUOTE) + QUOTE
    if isinstance(value, list):
        return "[" + ",".join([show_fitting(thing) for thing in value]) + "]"
    if not isinstance(value, tuple):
        return str(value)
    if len(value) == 2:
        return "(" + show_fitting(value[0]) + "," + show_fitting(value[1]) + ")"
    return "#" + str(value[1]) + ":" + show_fitting(value[2])


def show_grammar(g):
    return "; ".join([show_state(state) for state in g])


def show_state(state):
    if is_end(state):
        return "end"
    return " ".join([state[0]] + [show_word(word) for word in state[1]])


def show_word(word):
    return word[0] + ":" + show_shape(word[1]) + ">" + str(word[2])


def read_shape(text):
    check_text(text)
    read = shape_at(text, 0, 1)
    if read[1] != len(text) or not is_shape(read[0]):
        raise NoText("this writes no shape")
    return read[0]


def read_worth(s, text):
    check_text(text)
    read = worth_at(s, text, 0)
    if read[1] != len(text) or not fits(s, read[0]):
        raise NoText("this writes no value of the shape")
    return read[0]


def read_grammar(text):
    check_text(text)
    g = [state_read(row) for row in text.split("; ")]
    if not is_grammar(g):
        raise NoText("this writes no grammar")
    return g


def check_text(thing):
    if not isinstance(thing, str):
        raise NoText("this is no text")


# What is read may still be no state, word or shape: that is asked of the whole.

def state_read(row):
    if row == "end":
        return ("end",)
    parts = row.split(" ")
    return (parts[0], [word_read(part) for part in parts[1:]])


def word_read(row):
    # Neither sign stands within a shape: where one of them lacks, nothing is left that could be a shape.
    named = row.partition(":")
    led = named[2].rpartition(">")
    return (named[0], read_shape(led[0]), number_read(led[2]))


def number_read(row):
    read = number_at(row, 0)
    if read[1] != len(row):
        raise NoText("this writes no number")
    return read[0]


# What stands in a text from a place on is told with the place behind it.

def shape_at(text, at, depth):
    # A text may go deeper than can be followed, a shape may not.
    if depth > MOST_DEPTH:
        raise NoText("this is deeper than a shape")
    place = behind_all(text, at, LETTERS)
    kind = text[at:place]
    if not text.startswith("(", place):
        return ((kind,), place)
    read = row_at(text, place + 1, ")", lambda start: part_at(text, start, depth + 1))
    return (shape_of(kind, tuple(read[0])), read[1])


def shape_of(kind, parts):
    return (kind, parts) if kind == "choice" else (kind,) + parts


def part_at(text, at, depth):
    begins_word = behind_all(text, at, LETTERS) > at
    return shape_at(text, at, depth) if begins_word else number_at(text, at)


def worth_at(s, text, at):
    kind = s[0]
    if kind == "nothing":
        return (None, behind_sign(text, at, "-"))
    if kind == "number":
        return number_at(text, at)
    if kind == "text":
        return quoted_at(text, at)
    if kind == "list":
        return list_at(s, text, at)
    if kind == "pair":
        return pair_at(s, text, at)
    return choice_at(s, text, at)


def list_at(s, text, at):
    place = behind_sign(text, at, "[")
    if text.startswith("]", place):
        return ([], place + 1)
    return row_at(text, place, "]", lambda start: worth_at(s[1], text, start))


def pair_at(s, text, at):
    first = worth_at(s[1], text, behind_sign(text, at, "("))
    second = worth_at(s[2], text, behind_sign(text, first[1], ","))
    return ((first[0], second[0]), behind_sign(text, second[1], ")"))


def choice_at(s, text, at):
    number = number_at(text, behind_sign(text, at, "#"))
    if not is_number_within(number[0], 0, len(s[1]) - 1):
        raise NoText("the choice has no shape of this number")
    read = worth_at(s[1][number[0]], text, behind_sign(text, number[1], ":"))
    return (("of", number[0], read[0]), read[1])


def row_at(text, at, closing, thing_at):
    # One thing or more, with commas between, up to the closing sign.
    read = thing_at(at)
    things = [read[0]]
    while text.startswith(",", read[1]):
        read = thing_at(read[1] + 1)
        things.append(read[0])
    return (things, behind_sign(text, read[1], closing))


def number_at(text, at):
    first = at + 1 if text.startswith("-", at) else at
    place = behind_all(text, first, FIGURES)
    if not 1 <= place - first <= MOST_FIGURES:
        raise NoText("a number has one to eighteen figures")
    number = int(text[at:place])
    # A nought ahead, or a - ahead of a nought, is in no number's writing.
    if str(number) != text[at:place]:
        raise NoText("the number is written otherwise")
    return (number, place)


def quoted_at(text, at):
    place = behind_sign(text, at, QUOTE)
    row = ""
    end = text.find(QUOTE, place)
    while end >= 0:
        row = row + text[place:end]
        if not text.startswith(QUOTE, end + 1):
            return (row, end + 1)
        row = row + QUOTE
        place = end + 2
        end = text.find(QUOTE, place)
    raise NoText("the text does not end")


def behind_sign(text, at, sign):
    if not text.startswith(sign, at):
        raise NoText("another sign is due")
    return at + 1


def behind_all(text, at, signs):
    place = at
    while place < len(text) and text[place] in signs:
        place = place + 1
    return place
