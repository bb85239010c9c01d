"""Ways: the lists of names of whole talks, counted, and numbered in their order."""

from wireparley.errors import NoTalk
from wireparley.talks import is_end, place_named, state_next, words_of


def how_many(g, n):
    if n < 0:
        return 0
    return counts_up_to(g, n)[n][0]


# A row of counts tells for each state how many ways of some number of
# messages lead from it to an end.

def counts_up_to(g, n):
    rows = [counts_of_none(g)]
    for m in range(n):
        rows.append(counts_of_one_more(g, rows[m]))
    return rows


def counts_of_none(g):
    return [1 if is_end(state) else 0 for state in g]


def counts_of_one_more(g, row):
    return [count_behind(words_of(state), row) for state in g]


def count_behind(words, row):
    return sum([row[word[2]] for word in words])


def way_of(g, n, k):
    if not 0 <= k < how_many(g, n):
        raise NoTalk(0)
    rows = counts_up_to(g, n)
    way = []
    state = 0
    number = k
    for behind in range(n - 1, -1, -1):
        words = words_of(g[state])
        place = place_numbered(words, rows[behind], number)
        number = number - count_behind(words[:place], rows[behind])
        way.append(words[place][0])
        state = words[place][2]
    return way


def place_numbered(words, row, number):
    # The place of the word with which the way of this number begins.
    place = 0
    while number >= count_behind(words[:place + 1], row):
        place = place + 1
    return place


def number_of(g, way):
    steps = steps_named(g, way)
    row = counts_of_none(g)
    number = 0
    # From the last message to the first, as the counts grow from the ends on.
    for k in range(len(steps) - 1, -1, -1):
        words = words_of(g[steps[k][0]])
        number = number + count_behind(words[:steps[k][1]], row)
        row = counts_of_one_more(g, row)
    return number


def steps_named(g, way):
    state = 0
    steps = []
    for name in way:
        place = place_named(g[state], name)
        if place is None:
            raise NoTalk(0)
        step = (state, place)
        steps.append(step)
        state = state_next(g, step)
    if not is_end(g[state]):
        raise NoTalk(0)
    return steps
