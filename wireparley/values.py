"""The bytes of values by their shapes, written and read back."""

from wireparley.errors import Broken, NoValue, Short
from wireparley.shapes import FIRST_SIGN, fits, is_sign

# The signs from the blank to ~ in the order of their numbers. The percent
# sign stands in no value: a blank keeps its place, so that each sign behind
# it lies at its number.
SIGNS = (
    " !\"#$ &'()*+,-./0123456789:;<=>?"
    "@ABCDEFGHIJKLMNOPQRSTUVWXYZ[\\]^_"
    "`abcdefghijklmnopqrstuvwxyz{|}~"
)


def value_bytes(s, value):
    if not fits(s, value):
        raise NoValue("the value does not fit the shape")
    return fitting_bytes(s, value)


def fitting_bytes(s, value):
    kind = s[0]
    if kind == "nothing":
        return []
    if kind == "number":
        return number_bytes(value - s[1], width_up_to(s[2] - s[1]))
    if kind == "text":
        return [len(value)] + [ord(sign) for sign in value]
    if kind == "list":
        row = [len(value)]
        for thing in value:
            row.extend(fitting_bytes(s[1], thing))
        return row
    if kind == "pair":
        return fitting_bytes(s[1], value[0]) + fitting_bytes(s[2], value[1])
    return [value[1]] + fitting_bytes(s[1][value[1]], value[2])


def width_up_to(most):
    return (most.bit_length() + 7) // 8


def number_bytes(number, width):
    return [leading(number, width - k) % 256 for k in range(1, width + 1)]


def leading(number, cut):
    # What is left of a number without its last so many bytes.
    return number >> (8 * cut)


# Every shape has a value, so bytes read so far that are broken nowhere always
# begin some value's bytes: it is enough to look at each byte as it comes.

def read_value(s, wire, at):
    kind = s[0]
    if kind == "nothing":
        return (None, at)
    if kind == "number":
        return read_number(s, wire, at)
    if kind == "text":
        return read_text(s, wire, at)
    if kind == "list":
        return read_list(s, wire, at)
    if kind == "pair":
        return read_pair(s, wire, at)
    return read_choice(s, wire, at)


def byte_at(wire, at):
    if at >= len(wire):
        raise Short("the bytes end within a value")
    return wire[at]


def byte_up_to(most, wire, at):
    byte = byte_at(wire, at)
    if byte > most:
        raise Broken(at, None)
    return byte


def read_number(s, wire, at):
    most = s[2] - s[1]
    width = width_up_to(most)
    number = 0
    for k in range(width):
        number = number * 256 + byte_at(wire, at + k)
        # Told at this byte, though others are due: none of them can mend it.
        if number > leading(most, width - 1 - k):
            raise Broken(at + k, None)
    return (s[1] + number, at + width)


def read_text(s, wire, at):
    length = byte_up_to(s[1], wire, at)
    place = at + 1
    text = ""
    for k in range(length):
        text = text + sign_at(wire, place + k)
    return (text, place + length)


def sign_at(wire, at):
    number = byte_at(wire, at)
    if not is_sign(number):
        raise Broken(at, None)
    return SIGNS[number - FIRST_SIGN]


def read_list(s, wire, at):
    length = byte_up_to(s[2], wire, at)
    place = at + 1
    things = []
    for k in range(length):
        part = read_value(s[1], wire, place)
        things.append(part[0])
        place = part[1]
    return (things, place)


def read_pair(s, wire, at):
    first = read_value(s[1], wire, at)
    second = read_value(s[2], wire, first[1])
    return ((first[0], second[0]), second[1])


def read_choice(s, wire, at):
    k = byte_up_to(len(s[1]) - 1, wire, at)
    part = read_value(s[1][k], wire, at + 1)
    return (("of", k, part[0]), part[1])
