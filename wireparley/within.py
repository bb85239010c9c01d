"""Shapes within shapes, and the values by which shapes part."""

from wireparley.errors import NoValue
from wireparley.shapes import fits
from wireparley.values import fitting_bytes, width_up_to


def is_within(s, r):
    kind = s[0]
    if kind != r[0]:
        return False
    if kind == "nothing":
        return True
    if kind == "number":
        return s[1] == r[1] and width_of(s) == width_of(r) and s[2] <= r[2]
    if kind == "text":
        return s[1] <= r[1]
    if kind == "list":
        return s[2] <= r[2] and (s[2] == 0 or is_within(s[1], r[1]))
    if kind == "pair":
        return is_within(s[1], r[1]) and is_within(s[2], r[2])
    return len(s[1]) <= len(r[1]) and all([is_within(s[1][k], r[1][k]) for k in range(len(s[1]))])


def width_of(s):
    return width_up_to(s[2] - s[1])


def parting(s, r):
    if is_within(s, r):
        raise NoValue("each value of the shape has the same bytes by the other one")
    return smallest([value for value in tries(s, r) if shows_parting(s, r, value)])


def shows_parting(s, r, value):
    return not fits(r, value) or fitting_bytes(s, value) != fitting_bytes(r, value)


# For each place at which the forms part, values of s that show it, as small as
# can be. Not each of them does: one half of a pair may have as many bytes too
# few as the other half has too many. But a number with too many bytes has
# values that do not fit r, and these are tried too.

def tries(s, r):
    kind = s[0]
    if kind != r[0]:
        return [least_value(s)]
    if is_within(s, r):
        return []
    if kind == "number":
        return [s[1], s[2]]
    if kind == "text":
        return ["a" * (r[1] + 1)]
    if kind == "list":
        return list_tries(s, r)
    if kind == "pair":
        return pair_tries(s, r)
    return choice_tries(s, r)


def list_tries(s, r):
    # Not within, so with a most above 0: a list of one thing fits s.
    values = [[value] for value in tries(s[1], r[1])]
    if s[2] > r[2]:
        values.append([least_value(s[1]) for k in range(r[2] + 1)])
    return values


def pair_tries(s, r):
    values = [(value, least_value(s[2])) for value in tries(s[1], r[1])]
    values.extend([(least_value(s[1]), value) for value in tries(s[2], r[2])])
    return values


def choice_tries(s, r):
    values = [("of", k, least_value(s[1][k])) for k in range(len(r[1]), len(s[1]))]
    for k in range(min(len(s[1]), len(r[1]))):
        values.extend([("of", k, value) for value in tries(s[1][k], r[1][k])])
    return values


def least_value(s):
    kind = s[0]
    if kind == "nothing":
        return None
    if kind == "number":
        return s[1]
    if kind == "text":
        return ""
    if kind == "list":
        return []
    if kind == "pair":
        return (least_value(s[1]), least_value(s[2]))
    return smallest([("of", k, least_value(s[1][k])) for k in range(len(s[1]))])


def smallest(values):
    return min(values, key=values_in)


def values_in(value):
    if isinstance(value, list):
        return 1 + sum([values_in(thing) for thing in value])
    if not isinstance(value, tuple):
        return 1
    if len(value) == 2:
        return 1 + values_in(value[0]) + values_in(value[1])
    return 1 + values_in(value[2])
