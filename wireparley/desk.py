"""The desk: named grammars and a talk, worked by rows of text."""

from wireparley.coming import most_under_way
from wireparley.errors import NoName, NoRow
from wireparley.sides import SIDES, Parley
from wireparley.standing import newer, stands_in
from wireparley.talks import is_name
from wireparley.texts import FIGURES, behind_all, read_grammar, read_worth, show_fitting
from wireparley.ways import how_many

MOST_ROW_FIGURES = 3

# By its first word, what a row has behind it: "known" is the name of a grammar
# that stands, "name" any name, "rest" all that is left.
FORMS = {
    "grammar": ("name", "rest"),
    "talk": ("known",),
    "say": ("side", "name", "rest"),
    "take": ("side", "number"),
    "may": (),
    "over": (),
    "states": (),
    "ways": ("known", "number"),
    "stands": ("known", "known"),
    "newer": ("known", "known"),
    "bound": ("known",),
}
PARLEY_WORDS = ("say", "take", "may", "over", "states")


class Desk:

    def __init__(self):
        self.grammars = {}
        self.parley = None

    def names(self):
        return sorted(self.grammars)

    def say(self, row):
        parts = parts_of_row(row)
        self.check_names(parts)
        word = parts[0]
        if word == "grammar":
            self.grammars[parts[1]] = read_grammar(parts[2])
            return "ok"
        if word == "talk":
            self.parley = Parley(self.grammars[parts[1]])
            return "ok"
        if word in PARLEY_WORDS:
            return answer_of_parley(self.parley, parts)
        return answer_of_grammars(self.grammars, parts)

    def check_names(self, parts):
        kinds = FORMS[parts[0]]
        for k in range(len(kinds)):
            if kinds[k] == "known" and parts[k + 1] not in self.grammars:
                raise NoName("no grammar stands by this name")
        if parts[0] in PARLEY_WORDS and self.parley is None:
            raise NoName("there is no talk")


def parts_of_row(row):
    if not isinstance(row, str):
        raise NoRow("a row is a text")
    word = row.partition(" ")[0]
    if word not in FORMS:
        raise NoRow("no row begins so")
    kinds = FORMS[word]
    parts = row.split(" ", len(kinds))
    # A row of one word alone is not split: so its word may have something behind it still.
    if parts[0] != word or len(parts) != len(kinds) + 1:
        raise NoRow("the row has too few parts or too many")
    for k in range(len(kinds)):
        if not is_part(kinds[k], parts[k + 1]):
            raise NoRow("a part of the row is of another form")
    return parts


def is_part(kind, part):
    if kind == "side":
        return part in SIDES
    if kind == "number":
        return is_row_number(part)
    return kind == "rest" or is_name(part)


def is_row_number(part):
    if not 1 <= len(part) <= MOST_ROW_FIGURES or behind_all(part, 0, FIGURES) != len(part):
        return False
    return len(part) == 1 or part[0] != "0"


def answer_of_parley(parley, parts):
    word = parts[0]
    if word == "say":
        value = read_worth(parley.of_side(parts[1]).shape_to_say(parts[2]), parts[3])
        return show_numbers(parley.do(("say", parts[1], parts[2], value)))
    if word == "take":
        return show_messages(parley.do(("take", parts[1], int(parts[2]))))
    if word == "may":
        return show_row([" ".join(act) for act in parley.may()])
    if word == "over":
        return show_truth(parley.is_over())
    return show_numbers(parley.states())


def answer_of_grammars(grammars, parts):
    word = parts[0]
    g = grammars[parts[1]]
    if word == "ways":
        return str(how_many(g, int(parts[2])))
    if word == "bound":
        most = most_under_way(g)[0]
        return "none" if most is None else str(most)
    h = grammars[parts[2]]
    if word == "newer":
        return " ".join([show_truth(truth) for truth in newer(g, h)])
    return show_standing(stands_in(g, h))


def show_standing(answer):
    if answer[0] == "likeness":
        return "yes"
    return "no" if len(answer[1]) == 0 else "no " + show_messages(answer[1])


def show_messages(messages):
    return show_row([" ".join([message[0], message[1], show_fitting(message[2])]) for message in messages])


def show_row(things):
    return "none" if len(things) == 0 else ", ".join(things)


def show_numbers(numbers):
    return " ".join([str(number) for number in numbers])


def show_truth(truth):
    return "yes" if truth else "no"
