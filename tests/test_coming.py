"""Points [16] and [17]: reached and ending states, shortest rows of names, the most messages under way."""

import copy
import itertools
import unittest

from tests.drawn import chance_of, drawn_grammar
from wireparley.coming import ending, most_under_way, reached, rows_to
from wireparley.sides import Parley
from wireparley.talks import is_grammar, state_behind

NOTHING = ("nothing",)
END = ("end",)
ASK = [reached, ending, rows_to, most_under_way]


def word(name, behind, shape=NOTHING):
    return (name, shape, behind)


def left(*words):
    return ("left", [word(name, behind) for name, behind in words])


def right(*words):
    return ("right", [word(name, behind) for name, behind in words])


def asking():
    return [left(("ask", 1), ("go", 2)), right(("yes", 0), ("no", 0), ("over", 2)), END]


def thirty():
    """A row of states, of left and right in turn, the last an end."""
    return [(right if k % 2 else left)(("z", k + 1), ("a", k + 1)) for k in range(29)] + [END]


def backwards():
    """From 0 to the last one and from there down: reached in another order than that of the numbers."""
    return [left(("a", 29)), END] + [(right if k % 2 else left)(("b", k - 1)) for k in range(2, 30)]


def scattered():
    """0, 3, 5 are reached; from 0, 2, 3, 5 no end can be come to; 4 is an end that is not reached."""
    return [left(("a", 3), ("b", 5)), right(("c", 4), ("d", 1)), left(("e", 0)), right(("f", 5)), END,
            left(("g", 3), ("h", 0))]


def states_of(g, names):
    state = 0
    for name in names:
        state = {word[0]: word[2] for word in g[state][1]}[name]
    return state


def nexts(g, state):
    return [] if g[state] == END else [behind for _, _, behind in g[state][1]]


def distances(g, target):
    """How many messages each state is away from the target, by going back from there."""
    far, level = {}, [target]
    while level:
        steps = max(far.values(), default=-1) + 1
        far.update({k: steps for k in level})
        level = [k for k in range(len(g)) if k not in far and any(behind in far for behind in nexts(g, k))]
    return far


def expected_row(g, target):
    """A shortest row of names to the target, always by the first word that leads nearer; None where there is none."""
    far = distances(g, target)
    if 0 not in far:
        return None
    row, state = [], 0
    while state != target:
        name, _, state = [word for word in g[state][1] if far.get(word[2]) == far[state] - 1][0]
        row.append(name)
    return row


def all_rows(g, length, state=0):
    """Every row of names of that length with the state behind it, in the order of point [10]."""
    if length == 0:
        return [([], state)]
    if g[state] == END:
        return []
    return [([name, *row], last) for name, _, behind in g[state][1] for row, last in all_rows(g, length - 1, behind)]


def expected_ending(g):
    return [k for k in range(len(g)) if any(g[target] == END and k in distances(g, target) for target in range(len(g)))]


def most_by_trying(g, cap):
    """Goes through all that two sides may do, with whole messages; cap where more than so many come to lie there."""
    first = (0, 0, (), ())
    seen, todo, most = {first}, [first], 0
    while todo:
        mine, theirs, lying_left, lying_right = todo.pop()
        most = max(most, len(lying_left) + len(lying_right))
        if most >= cap:
            return cap
        after = []
        if g[mine][0] == "left":
            after += [(behind, theirs, lying_left + (behind,), lying_right) for behind in nexts(g, mine)]
        if g[theirs][0] == "right":
            after += [(mine, behind, lying_left, lying_right + (behind,)) for behind in nexts(g, theirs)]
        if lying_left and g[theirs][0] == "left":
            after.append((mine, lying_left[0], lying_left[1:], lying_right))
        if lying_right and g[mine][0] == "right":
            after.append((lying_right[0], theirs, lying_left, lying_right[1:]))
        todo += [one for one in after if one not in seen]
        seen.update(after)
    return most


def small_grammar(chance):
    states = chance.choice([1, 2, 3, 4, 5])
    g = []
    for _ in range(states):
        words = [word(name, chance.randrange(states)) for name in chance.sample("abcd", chance.choice([1, 1, 2, 3]))]
        g.append(chance.choice([("left", words), ("right", words), END]) if chance.random() < 0.5
                 else (chance.choice(["left", "right"]), words))
    return g


class StatesTest(unittest.TestCase):

    def told(self, g, states, ends):
        self.assertTrue(is_grammar(g))
        self.assertEqual(reached(g), states)
        self.assertEqual(ending(g), ends)
        for numbers in [reached(g), ending(g)]:
            self.assertIs(type(numbers), list)
            self.assertTrue(all(type(number) is int for number in numbers))

    def test_ordinary(self):
        self.told(asking(), [0, 1, 2], [0, 1, 2])

    def test_one_state(self):
        self.told([END], [0], [0])
        self.told([left(("a", 0))], [0], [])
        self.told([right(("a", 0), ("b", 0))], [0], [])

    def test_thirty_states(self):
        self.told(thirty(), list(range(30)), list(range(30)))
        self.told(backwards(), list(range(30)), list(range(30)))
        ring = [left(("a", (k + 7) % 30)) for k in range(30)]
        self.told(ring, list(range(30)), [])
        apart = [right(("a", k)) for k in range(29)] + [END]
        self.told(apart, [0], [29])

    def test_not_reached(self):
        self.told([left(("a", 2)), right(("b", 2)), END], [0, 2], [0, 1, 2])
        self.told([END, left(("a", 0)), right(("b", 1))], [0], [0, 1, 2])
        self.told([left(("a", 0)), left(("b", 2)), END, END], [0], [1, 2, 3])
        self.told([END, END, END], [0], [0, 1, 2])

    def test_no_end_ahead(self):
        self.told([left(("a", 1), ("b", 2)), right(("c", 1)), END], [0, 1, 2], [0, 2])
        self.told([left(("a", 1)), right(("c", 0)), END], [0, 1], [2])
        self.told(scattered(), [0, 3, 5], [1, 4])

    def test_an_end_far_off(self):
        g = [left(("a", 0), ("b", k + 1)) for k in range(28)]
        self.told(g + [right(("a", 28)), END], list(range(29)), [29])
        self.told(g + [right(("a", 28), ("b", 29)), END], list(range(30)), list(range(30)))

    def test_the_first_state_an_end(self):
        self.told([END, left(("a", 1))], [0], [0])

    def test_both_are_in_order(self):
        g = [left(("a", 4), ("b", 1)), left(("c", 3)), END, right(("d", 2)), right(("e", 0))]
        self.told(g, [0, 1, 2, 3, 4], [0, 1, 2, 3, 4])

    def test_drawn(self):
        chance = chance_of(16)
        for _ in range(300):
            g = small_grammar(chance) if chance.random() < 0.7 else drawn_grammar(chance, chance.choice([8, 30]))
            states = [k for k in range(len(g)) if expected_row(g, k) is not None]
            self.told(g, states, expected_ending(g))


class RowsTest(unittest.TestCase):

    def told(self, g, rows):
        self.assertTrue(is_grammar(g))
        told = rows_to(g)
        self.assertEqual(told, rows)
        self.assertIs(type(told), dict)
        for state, row in told.items():
            self.assertIs(type(state), int)
            self.assertIs(type(row), list)

    def test_ordinary(self):
        self.told(asking(), {0: [], 1: ["ask"], 2: ["go"]})

    def test_state_0_has_the_empty_row(self):
        self.told([END], {0: []})
        self.told([left(("a", 0))], {0: []})
        self.told([left(("a", 1)), right(("b", 0))], {0: [], 1: ["a"]})
        self.told([END, left(("a", 0))], {0: []})

    def test_just_the_reached_ones(self):
        self.told(scattered(), {0: [], 3: ["a"], 5: ["b"]})

    def test_a_shorter_row_behind_a_longer_one(self):
        g = [left(("a", 1), ("b", 3)), left(("c", 2)), left(("d", 3)), END]
        self.told(g, {0: [], 1: ["a"], 2: ["a", "c"], 3: ["b"]})
        g = [left(("a", 1), ("b", 2)), right(("c", 3)), right(("d", 4)), right(("e", 4)), END]
        self.told(g, {0: [], 1: ["a"], 2: ["b"], 3: ["a", "c"], 4: ["b", "d"]})

    def test_of_alike_ones_the_first_by_places(self):
        # By the places of the words, not by the letters of their names.
        self.told([left(("z", 1), ("a", 1)), END], {0: [], 1: ["z"]})
        g = [left(("z", 2), ("a", 1)), right(("b", 3)), right(("y", 3)), END]
        self.told(g, {0: [], 1: ["a"], 2: ["z"], 3: ["z", "y"]})

    def test_the_first_message_counts_first(self):
        # The row by the first word goes on by a late word, the other one by an early one.
        g = [
            left(("z", 2), ("a", 1)), right(("b", 3), ("c", 0)), right(("d", 0), ("e", 0), ("y", 3)), END,
        ]
        self.told(g, {0: [], 1: ["a"], 2: ["z"], 3: ["z", "y"]})

    def test_not_by_the_numbers_of_states(self):
        g = [left(("c", 3), ("b", 2), ("a", 1)), right(("d", 4)), right(("e", 4)), right(("f", 4)), left(("g", 5)), END]
        self.told(g, {0: [], 1: ["a"], 2: ["b"], 3: ["c"], 4: ["c", "f"], 5: ["c", "f", "g"]})

    def test_rings(self):
        g = [left(("a", 1)), right(("b", 2), ("c", 1)), left(("d", 0), ("e", 3)), right(("f", 0))]
        self.told(g, {0: [], 1: ["a"], 2: ["a", "b"], 3: ["a", "b", "e"]})

    def test_thirty_states(self):
        self.told(thirty(), {k: ["z"] * k for k in range(30)})
        rows = {0: [], 29: ["a"]}
        rows.update({k: ["a"] + ["b"] * (29 - k) for k in range(1, 29)})
        self.told(backwards(), rows)

    def test_nine_words(self):
        g = [left(*[(name, k + 1) for k, name in enumerate("ihgfedcba")])] + [right(("x", 10))] * 9 + [END]
        rows = {0: [], 10: ["i", "x"]}
        rows.update({k + 1: [name] for k, name in enumerate("ihgfedcba")})
        self.told(g, rows)

    def test_against_all_rows(self):
        chance = chance_of(160)
        for _ in range(200):
            g = small_grammar(chance)
            expected = {}
            for length in range(len(g)):
                for row, last in all_rows(g, length):
                    expected.setdefault(last, row)
            self.told(g, expected)

    def test_drawn(self):
        chance = chance_of(161)
        for _ in range(60):
            g = drawn_grammar(chance, chance.choice([3, 8, 30]))
            rows = {k: expected_row(g, k) for k in range(len(g)) if expected_row(g, k) is not None}
            self.told(g, rows)
            for state, row in rows_to(g).items():
                self.assertEqual(states_of(g, row), state)


class UnderWayTest(unittest.TestCase):

    def bound(self, g, number):
        self.assertTrue(is_grammar(g))
        told = most_under_way(g)
        self.assertEqual(told, (number, []))
        self.assertEqual([type(part) for part in told], [int, list])
        self.assertIs(type(told), tuple)

    def no_bound(self, g, rings=None):
        self.assertTrue(is_grammar(g))
        told = most_under_way(g)
        self.assertIs(type(told), tuple)
        self.assertEqual(len(told), 2)
        self.assertIs(told[0], None)
        ring = told[1]
        self.assertIs(type(ring), list)
        self.assertTrue(ring)
        self.assertTrue(all(type(number) is int for number in ring))
        self.assertEqual(len(set(ring)), len(ring))
        for state, behind in zip(ring, ring[1:] + ring[:1]):
            self.assertIn(behind, nexts(g, state))
        self.assertEqual(len({g[state][0] for state in ring}), 1)
        self.assertTrue(all(expected_row(g, state) is not None for state in ring))
        self.assertEqual(ring[0], min(ring))
        if rings is not None:
            self.assertIn(ring, rings)

    def test_nothing_can_be_said(self):
        self.bound([END], 0)
        self.bound([END, left(("a", 1))], 0)
        self.bound([END, left(("a", 2)), right(("b", 1)), right(("c", 0))], 0)

    def test_one_at_a_time(self):
        self.bound(asking(), 1)
        self.bound(thirty(), 1)
        self.bound([left(("a", 1)), END], 1)
        self.bound([right(("a", 1)), END], 1)

    def test_several(self):
        self.bound([left(("a", 1)), left(("b", 2)), left(("c", 3)), END], 3)
        self.bound([right(("a", 1)), right(("b", 2)), right(("c", 3)), END], 3)
        self.bound([left(("a", 1)), left(("b", 2)), right(("c", 3)), right(("d", 4)), right(("e", 0))], 3)
        self.bound([left(("a", 1)), left(("b", 2)), left(("c", 3)), right(("d", 4)), right(("e", 0))], 3)

    def test_a_run_that_goes_round_through_state_0(self):
        # 2 and 3 are the left's, then 0 and 1: four in a row, though the talk begins in their midst.
        self.bound([left(("a", 1)), left(("b", 4)), left(("c", 3)), left(("d", 0)), right(("e", 2))], 4)

    def test_the_longest_of_several(self):
        g = [left(("a", 3), ("b", 1)), left(("c", 2)), left(("d", 3)), right(("e", 4), ("f", 5)), right(("g", 5)), END]
        self.bound(g, 3)
        self.bound([left(("a", 5), ("b", 1)), left(("c", 2)), left(("d", 4)), END, left(("e", 3)), END], 4)

    def test_thirty_in_a_row(self):
        self.bound([left(("a", k + 1), ("b", 29)) for k in range(29)] + [END], 29)
        self.bound([left(("a", k + 1)) for k in range(29)] + [right(("b", 0))], 29)
        every = [left(*[(name, min(29, k + 1 + n)) for n, name in enumerate("abcdefghi")]) for k in range(29)]
        self.bound(every + [END], 29)

    def test_all_thirty_of_one_side_but_no_ring(self):
        self.no_bound([right(("a", (k + 1) % 30)) for k in range(30)], [list(range(30))])
        self.bound([left(("a", k + 1)) for k in range(28)] + [right(("b", 29)), END], 28)

    def test_a_state_that_goes_on_to_itself(self):
        self.no_bound([left(("a", 0))], [[0]])
        self.no_bound([right(("a", 0), ("b", 1)), END], [[0]])
        self.no_bound([left(("a", 1)), right(("b", 2)), right(("c", 2), ("d", 0))], [[2]])

    def test_a_ring(self):
        self.no_bound([left(("a", 1)), left(("b", 0))], [[0, 1]])
        self.no_bound([left(("a", 2)), right(("x", 0)), left(("b", 1), ("c", 0))], [[0, 2]])
        g = [left(("a", 3)), right(("b", 0), ("c", 4)), right(("d", 1)), right(("e", 2)), right(("f", 3))]
        self.no_bound(g, [[1, 4, 3, 2]])

    def test_the_least_state_stands_first(self):
        # The ring is come to at 4, and goes on to 1 last.
        g = [left(("a", 4)), right(("b", 4)), right(("c", 3)), right(("d", 1)), right(("e", 2))]
        self.no_bound(g, [[1, 4, 2, 3]])

    def test_a_ring_behind_a_chain(self):
        g = [left(("a", 5)), left(("b", 2)), left(("c", 1), ("d", 3)), END, left(("e", 1)), left(("f", 4))]
        self.no_bound(g, [[1, 2]])

    def test_states_on_the_way_are_not_of_the_ring(self):
        g = [left(("a", 1)), left(("b", 2)), left(("c", 3)), left(("d", 2), ("e", 4)), END]
        self.no_bound(g, [[2, 3]])

    def test_several_rings(self):
        g = [left(("a", 1), ("b", 3)), left(("c", 2)), left(("d", 1)), right(("e", 4)), right(("f", 3), ("g", 4))]
        self.no_bound(g, [[1, 2], [3, 4], [4]])

    def test_a_ring_that_is_not_reached(self):
        self.bound([left(("a", 1)), END, right(("b", 2))], 1)
        self.bound([left(("a", 3)), left(("b", 2)), left(("c", 1), ("d", 0)), right(("e", 4)), END], 1)
        self.bound([END, left(("a", 1))], 0)

    def test_a_chain_that_is_not_reached(self):
        self.bound([left(("a", 1)), END, left(("b", 3)), left(("c", 0))], 1)

    def test_rings_of_both_sides(self):
        self.bound([left(("a", 1)), right(("b", 0))], 1)
        self.bound([left(("a", 1)), left(("b", 2)), right(("c", 0))], 2)
        self.bound([left(("a", 1), ("x", 2)), right(("b", 0)), right(("c", 3)), right(("d", 0))], 2)
        thirty_round = [(left if k < 29 else right)(("a", (k + 1) % 30)) for k in range(30)]
        self.bound(thirty_round, 29)

    def test_a_ring_of_one_side_beside_one_of_both(self):
        g = [left(("a", 1)), right(("b", 0), ("c", 2)), right(("d", 3)), right(("e", 2), ("f", 0))]
        self.no_bound(g, [[2, 3]])

    def test_against_all_that_two_sides_may_do(self):
        chance = chance_of(17)
        bounds = []
        for _ in range(400):
            g = small_grammar(chance)
            most = most_by_trying(g, len(g) + 1)
            bounds.append(most)
            if most > len(g):
                self.no_bound(g)
            else:
                self.bound(g, most)
        self.assertLessEqual({0, 1, 2, 3}, set(bounds))

    def test_with_a_parley(self):
        g = [left(("a", 1)), left(("b", 2)), right(("c", 3)), right(("d", 4)), right(("e", 0), ("f", 5)), END]
        self.bound(g, 3)
        parley, said = Parley(g), []
        for side, names in [("left", "ab"), ("right", "cde"), ("left", "ab"), ("right", "cdf")]:
            for name in names:
                parley.do(("say", side, name, None))
                said.append((side, name, None))
            self.assertNotIn(("say", side), parley.may())
            lying = sum(parley.lying())
            self.assertEqual(lying, len(names))
            parley.do(("take", {"left": "right", "right": "left"}[side], lying))
        self.assertTrue(parley.is_over())
        self.assertEqual(state_behind(g, said), 5)

    def test_drawn_rings(self):
        chance = chance_of(170)
        rings = 0
        for _ in range(150):
            g = drawn_grammar(chance, chance.choice([4, 8, 15, 30]))
            if most_under_way(g)[0] is None:
                rings += 1
                self.no_bound(g)
        self.assertGreater(rings, 40)


class AskedTest(unittest.TestCase):
    """Point [2]."""

    def grammars(self):
        return [asking(), thirty(), backwards(), scattered(), [END], [left(("a", 0))],
                [left(("a", 1)), left(("b", 0))]]

    def test_what_is_handed_in_stays(self):
        for g in self.grammars():
            kept = copy.deepcopy(g)
            for ask in ASK:
                first = ask(g)
                self.assertEqual(ask(g), first)
                self.assertEqual(g, kept)

    def test_each_told_list_is_new(self):
        for g in self.grammars():
            dicts = [rows_to(g), rows_to(g)]
            lists = [reached(g), reached(g), ending(g), ending(g), most_under_way(g)[1], most_under_way(g)[1]]
            lists += itertools.chain(*[told.values() for told in dicts])
            self.assertEqual(len({id(one) for one in dicts + lists}), len(dicts + lists))
            kept = [ask(g) for ask in ASK]
            for one in lists:
                one.append("more")
            dicts[0].clear()
            self.assertEqual([ask(g) for ask in ASK], kept)

    def test_changing_a_row_changes_no_other(self):
        rows = rows_to(thirty())
        rows[3].append("more")
        self.assertEqual((rows[2], rows[4]), (["z"] * 2, ["z"] * 4))

    def test_nothing_is_kept(self):
        g = asking()
        for ask in ASK:
            ask(g)
        g[1][1].pop()
        g[0][1].pop()
        self.assertEqual((reached(g), ending(g)), ([0, 1], [2]))
        g[0][1].append(word("on", 0))
        self.assertEqual(most_under_way(g), (None, [0]))
        self.assertEqual(rows_to(g), {0: [], 1: ["ask"]})


if __name__ == "__main__":
    unittest.main()
