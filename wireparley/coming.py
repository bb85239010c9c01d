"""What may come in the talks of a grammar: the states, the rows of names that lead there, the messages under way."""

from wireparley.talks import is_end, words_of


def reached(g):
    return sorted(rows_to(g))


def rows_to(g):
    rows = {0: []}
    layer = [0]
    while len(layer) > 0:
        behind = []
        # A layer's rows stand in the order of ways, so the first one that leads to a state is the one to tell.
        for state in layer:
            for word in words_of(g[state]):
                if word[2] not in rows:
                    rows[word[2]] = rows[state] + [word[0]]
                    behind.append(word[2])
        layer = behind
    return rows


def ending(g):
    ends = [is_end(state) for state in g]
    # No shortest row to an end is longer than there are states.
    for step in range(len(g)):
        ends = [is_end(state) or leads_to(state, ends) for state in g]
    return [number for number in range(len(g)) if ends[number]]


def leads_to(state, ends):
    return any([ends[word[2]] for word in words_of(state)])


# A side says something only when it has taken all that the other one said. So
# what is under way is of one side alone, said one behind the other: the most is
# the longest chain of reached states of one side, and a ring of them has no end.

def most_under_way(g):
    most = 0
    chained = [state for state in reached(g) if not is_end(g[state])]
    while len(chained) > 0:
        # A chain of more states than there are goes round.
        if most == len(g):
            return (None, ring_among(g, chained))
        most = most + 1
        chained = [state for state in chained if len(followers(g, state, chained)) > 0]
    return (most, [])


def followers(g, state, chained):
    side = g[state][0]
    return [word[2] for word in g[state][1] if word[2] in chained and g[word[2]][0] == side]


def ring_among(g, chained):
    # Each of the chained states has a follower among them: so walking on must come back somewhere.
    walk = []
    state = chained[0]
    while state not in walk:
        walk.append(state)
        state = followers(g, state, chained)[0]
    ring = walk[walk.index(state):]
    least = ring.index(min(ring))
    return ring[least:] + ring[:least]
