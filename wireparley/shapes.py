"""Shapes of values: which things are shapes, and which things fit them."""

MOST_NUMBER = 999999999999999999
MOST_LENGTH = 250
MOST_CHOICES = 9
MOST_DEPTH = 6
MOST_SHAPES = 60

FIRST_SIGN = 32
LAST_SIGN = 126
PERCENT_SIGN = 37


# Things of any kind come in here, also such as cannot be compared or cannot
# be walked to their depth: so a thing is compared only when its kind is known,
# and is walked only as deep as a shape may be.

def is_number(thing):
    return isinstance(thing, int) and not isinstance(thing, bool)


def is_number_within(thing, low, high):
    return is_number(thing) and low <= thing <= high


def is_shape(thing):
    level = [thing]
    shapes = 0
    for depth in range(MOST_DEPTH):
        shapes = shapes + len(level)
        if shapes > MOST_SHAPES:
            return False
        below = []
        for part in level:
            parts = parts_of(part)
            if parts is None:
                return False
            below.extend(parts)
        if len(below) == 0:
            return True
        level = below
    return False


def parts_of(thing):
    # None where the thing has no shape's form; its parts are not looked at.
    if not isinstance(thing, tuple) or len(thing) == 0 or not isinstance(thing[0], str):
        return None
    form = (thing[0], len(thing))
    if form == ("nothing", 1):
        return ()
    if form == ("number", 3) and is_span(thing[1], thing[2]):
        return ()
    if form == ("text", 2) and is_number_within(thing[1], 0, MOST_LENGTH):
        return ()
    if form == ("list", 3) and is_number_within(thing[2], 0, MOST_LENGTH):
        return (thing[1],)
    if form == ("pair", 3):
        return (thing[1], thing[2])
    if form == ("choice", 2) and isinstance(thing[1], tuple) and 1 <= len(thing[1]) <= MOST_CHOICES:
        return thing[1]
    return None


def is_span(low, high):
    return is_number_within(high, -MOST_NUMBER, MOST_NUMBER) and is_number_within(low, -MOST_NUMBER, high)


def fits(s, thing):
    kind = s[0]
    if kind == "nothing":
        return thing is None
    if kind == "number":
        return is_number_within(thing, s[1], s[2])
    if kind == "text":
        return fits_text(s, thing)
    if kind == "list":
        return fits_list(s, thing)
    if kind == "pair":
        return fits_pair(s, thing)
    return fits_choice(s, thing)


def fits_text(s, thing):
    if not isinstance(thing, str) or len(thing) > s[1]:
        return False
    for sign in thing:
        if not is_sign(ord(sign)):
            return False
    return True


def is_sign(number):
    return FIRST_SIGN <= number <= LAST_SIGN and number != PERCENT_SIGN


def fits_list(s, thing):
    if not isinstance(thing, list) or len(thing) > s[2]:
        return False
    for part in thing:
        if not fits(s[1], part):
            return False
    return True


def fits_pair(s, thing):
    if not isinstance(thing, tuple) or len(thing) != 2:
        return False
    return fits(s[1], thing[0]) and fits(s[2], thing[1])


def fits_choice(s, thing):
    if not isinstance(thing, tuple) or len(thing) != 3:
        return False
    if not isinstance(thing[0], str) or thing[0] != "of":
        return False
    if not is_number_within(thing[1], 0, len(s[1]) - 1):
        return False
    return fits(s[1][thing[1]], thing[2])
