"""Standing in: whether sides made of two grammars go together, shown by a likeness or by a talk that breaks."""

from wireparley.errors import NoTalk
from wireparley.shapes import is_number_within
from wireparley.talks import place_said, state_behind, words_of
from wireparley.wires import wires_of
from wireparley.within import is_within, least_value, parting


def stands_in(g, h):
    # Of each pair come to: the pair ahead of it, and a message that leads from there.
    led = {(0, 0): None}
    layer = [(0, 0)]
    while len(layer) > 0:
        talk = breaking_talk(g, h, led, layer)
        if talk is not None:
            return ("breaks", talk)
        behind = []
        for pair in layer:
            for step in steps_from(g, h, pair):
                if step[0] not in led:
                    led[step[0]] = (pair, step[1])
                    behind.append(step[0])
        layer = behind
    return ("likeness", sorted(led))


def breaking_talk(g, h, led, layer):
    # Pairs that part are looked for first: a missed message makes the talk one longer.
    for pair in layer:
        if is_parted(g, h, pair):
            return talk_to(led, pair)
    for pair in layer:
        message = missed_message(g, h, pair)
        if message is not None:
            return talk_to(led, pair) + [message]
    return None


def talk_to(led, pair):
    talk = []
    step = led[pair]
    while step is not None:
        talk.append(step[1])
        step = led[step[0]]
    talk.reverse()
    return talk


def is_parted(g, h, pair):
    # An end is of no side: so this is also an end beside a state that is none.
    return g[pair[0]][0] != h[pair[1]][0]


# From here on to goes_on a pair that is not parted is asked for.

def words_said(g, h, pair):
    return words_of(g[pair[0]] if g[pair[0]][0] == "left" else h[pair[1]])


def words_heard(g, h, pair):
    return words_of(h[pair[1]] if g[pair[0]][0] == "left" else g[pair[0]])


def missed_message(g, h, pair):
    # A message that the sayer may say and that the other one does not read so; None where there is none.
    said = words_said(g, h, pair)
    heard = words_heard(g, h, pair)
    for place in range(len(said)):
        if not is_heard(said, heard, place):
            return (g[pair[0]][0], said[place][0], missed_value(said, heard, place))
    return None


def is_heard(said, heard, place):
    return is_named_alike(said, heard, place) and is_within(said[place][1], heard[place][1])


def is_named_alike(said, heard, place):
    return place < len(heard) and heard[place][0] == said[place][0]


def missed_value(said, heard, place):
    if is_named_alike(said, heard, place):
        return parting(said[place][1], heard[place][1])
    # A word that the other one has not, or at another place, breaks with any value.
    return least_value(said[place][1])


def goes_on(g, h, pair):
    return not is_parted(g, h, pair) and missed_message(g, h, pair) is None


def steps_from(g, h, pair):
    # The next pairs of a pair that goes on, each with a message that leads there.
    said = words_said(g, h, pair)
    steps = []
    for place in range(len(said)):
        message = (g[pair[0]][0], said[place][0], least_value(said[place][1]))
        steps.append((pair_behind(g, h, pair, place), message))
    return steps


def pair_behind(g, h, pair, place):
    return (g[pair[0]][1][place][2], h[pair[1]][1][place][2])


def stands_so(g, h, answer):
    if not isinstance(answer, tuple) or len(answer) != 2:
        return False
    if not isinstance(answer[0], str) or not isinstance(answer[1], list):
        return False
    if answer[0] == "likeness":
        return is_likeness(g, h, answer[1])
    return answer[0] == "breaks" and is_breaking(g, h, answer[1])


# The lists hold things of any kind: these are compared only when their kind is known.

def is_likeness(g, h, things):
    if not all([is_pair(g, h, thing) for thing in things]):
        return False
    if (0, 0) not in things or things != sorted(set(things)):
        return False
    known = {}
    for pair in things:
        known[pair] = True
    return all([goes_on(g, h, pair) and stays_in(known, g, h, pair) for pair in things])


def is_pair(g, h, thing):
    if not isinstance(thing, tuple) or len(thing) != 2:
        return False
    return is_number_within(thing[0], 0, len(g) - 1) and is_number_within(thing[1], 0, len(h) - 1)


def stays_in(known, g, h, pair):
    return all([step[0] in known for step in steps_from(g, h, pair)])


def is_breaking(g, h, things):
    if is_said_alike(g, h, things):
        return is_parted(g, h, (state_behind(g, things), state_behind(h, things)))
    # The empty list is always said alike: so there is a last one.
    talk = things[:-1]
    if not is_said_alike(g, h, talk):
        return False
    by_left = is_said(g[state_behind(g, talk)], "left", things[-1])
    by_right = is_said(h[state_behind(h, talk)], "right", things[-1])
    return by_left or by_right


def is_said_alike(g, h, things):
    wires = wires_if_talk(g, things)
    return wires is not None and wires == wires_if_talk(h, things)


def wires_if_talk(g, things):
    try:
        return wires_of(g, things)
    except NoTalk:
        return None


def is_said(state, side, thing):
    return state[0] == side and place_said(state, thing) is not None


def newer(g, h):
    return (go_together(h, g), go_together(g, h))


def go_together(g, h):
    return stands_in(g, h)[0] == "likeness"
