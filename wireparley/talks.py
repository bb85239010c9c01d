"""Grammars and the talks that are said by them."""

from wireparley.errors import NoTalk
from wireparley.shapes import fits, is_number_within, is_shape

MOST_STATES = 30
MOST_WORDS = 9
MOST_LETTERS = 8


def is_grammar(thing):
    if not isinstance(thing, list) or not 1 <= len(thing) <= MOST_STATES:
        return False
    for state in thing:
        if not is_state(state, len(thing)):
            return False
    return True


def is_state(thing, states):
    if not isinstance(thing, tuple) or len(thing) == 0 or not isinstance(thing[0], str):
        return False
    if thing[0] == "end":
        return len(thing) == 1
    if thing[0] != "left" and thing[0] != "right":
        return False
    return len(thing) == 2 and are_words(thing[1], states)


def are_words(thing, states):
    if not isinstance(thing, list) or not 1 <= len(thing) <= MOST_WORDS:
        return False
    for word in thing:
        if not is_word(word, states):
            return False
    return len(set([word[0] for word in thing])) == len(thing)


def is_word(thing, states):
    if not isinstance(thing, tuple) or len(thing) != 3:
        return False
    return is_name(thing[0]) and is_shape(thing[1]) and is_number_within(thing[2], 0, states - 1)


def is_name(thing):
    if not isinstance(thing, str) or not 1 <= len(thing) <= MOST_LETTERS:
        return False
    for sign in thing:
        if not "a" <= sign <= "z":
            return False
    return True


def state_behind(g, talk):
    steps = steps_of(g, talk)
    if len(steps) == 0:
        return 0
    return state_next(g, steps[-1])


def steps_of(g, talk):
    # Of each message its step: the state in which it is said, and its word's place in the state's list.
    state = 0
    steps = []
    for k in range(len(talk)):
        place = place_said(g[state], talk[k])
        if place is None:
            raise NoTalk(k)
        step = (state, place)
        steps.append(step)
        state = state_next(g, step)
    return steps


def state_next(g, step):
    return g[step[0]][1][step[1]][2]


def place_said(state, thing):
    # The thing is of any kind: its texts are compared only when they are texts.
    if not isinstance(thing, tuple) or len(thing) != 3:
        return None
    if not isinstance(thing[0], str) or thing[0] != state[0]:
        return None
    place = place_named(state, thing[1])
    if place is None or not fits(state[1][place][1], thing[2]):
        return None
    return place


def place_named(state, thing):
    if not isinstance(thing, str):
        return None
    words = words_of(state)
    for place in range(len(words)):
        if words[place][0] == thing:
            return place
    return None


def words_of(state):
    return () if is_end(state) else state[1]


def is_end(state):
    return state[0] == "end"


def is_whole(g, talk):
    return is_end(g[state_behind(g, talk)])


def grammar_copy(g):
    # The lists of words are all that can be changed in a grammar, but for the list of states itself.
    return [state if is_end(state) else (state[0], list(state[1])) for state in g]
